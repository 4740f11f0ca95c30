import Derived.Test.YtddbjcfdmdbmkaaGreatDoorB14
set_option linter.unusedVariables false
set_option linter.unusedSimpArgs false
namespace Go.Proofs.YtddbjcfdmdbmkaaGreatDoor
open Go.RowKit

def zeroPat : Array Value := #[.int .i64 0, .int .i64 0, .slice none 0 0]
theorem Blk.three {w : World} {N : Nat} (h : Blk w N zeroPat 101) (v0 v1 v2 : Value) :
    Blk (((w.setCell ⟨N, 0, none⟩ v0).setCell ⟨N, 1, none⟩ v1).setCell ⟨N, 2, none⟩ v2) N #[v0, v1, v2] 101 := by
  have := ((h.set 0 v0).set 1 v1).set 2 v2
  simpa [zeroPat] using this
theorem grownBy_three (w : World) (N : Nat) (v0 v1 v2 : Value) : w.grownBy (((w.setCell ⟨N, 0, none⟩ v0).setCell ⟨N, 1, none⟩ v1).setCell ⟨N, 2, none⟩ v2) (some N) :=
  grownBy_trans (grownBy_trans (grownBy_setCell w ⟨N, 0, none⟩ v0) (grownBy_setCell _ ⟨N, 1, none⟩ v1)) (grownBy_setCell _ ⟨N, 2, none⟩ v2)
def PatPost (own : Nat → Nat) (w : World) (b n : Nat) (r : Rd × PPat) (v : Value) (w' : World) : Prop := ∃ own' m' sv, RSt own' w' b m' r.1 ∧ Ext own w own' w' ∧ v = .agg #[.int .i64 r.2.window, .int .i64 r.2.rate, sv] ∧ SeqLie own' w' n sv r.2.body

theorem patP_def (n : Nat) (σ : Rd) : patP n σ = ((seqP (partP n) ((((σ.expect [tWithin]).num 1 1000000).expect [tRate]).num 1 12)).1, ⟨(σ.expect [tWithin]).numV, (((σ.expect [tWithin]).num 1 1000000).expect [tRate]).numV, (seqP (partP n) ((((σ.expect [tWithin]).num 1 1000000).expect [tRate]).num 1 12)).2⟩) := rfl

set_option maxRecDepth 100000 in
set_option maxHeartbeats 800000 in
theorem pattern_p {b n : Nat} {own : Nat → Nat} {w : World} {m : RM} {σ : Rd} (h : RSt own w b m σ) (hpre : Pre2 n σ) :
    Calls Tryz.prog 82 #[.pointer (some ⟨b, 0, none⟩)] w fun e w' => ∃ v, e = .returned v ∧ PatPost own w b (n + 1) (patP n σ) v w' := by
  have hbw := h.blk.lt
  have p1 := hpre.ok (expect_ok hpre.good (ts := [tWithin]) (by simp [KW])).ok2
  have p2 := p1.ok (num_ok p1.good 1 1000000).ok2
  have p3 := p2.ok (expect_ok p2.good (ts := [tRate]) (by simp [KW])).ok2
  have p4 := p3.ok (num_ok p3.good 1 12).ok2
  have hseq := seq_p (b := b) (partP_ok n) (part_p b n)
  have hn1 := fun own1 w1 m1 (hs1 : RSt own1 w1 b m1 (σ.expect [tWithin])) => number_p hs1 p1.good 1 1000000 (by omega) (by omega)
  have hn2 := fun own1 w1 m1 (hs1 : RSt own1 w1 b m1 (((σ.expect [tWithin]).num 1 1000000).expect [tRate])) => number_p hs1 p3.good 1 12 (by omega) (by omega)
  rw [patP_def]
  generalize (σ.expect [tWithin]).numV = wv at *
  generalize (((σ.expect [tWithin]).num 1 1000000).expect [tRate]).numV = rv at *
  go_enter Tryz.func82, Tryz.ntmps82
  go_wp2_with (first
    | (go_at_call 130; refine (expect_new hs2 p2.good [tRate] (by simp [KW]) (by simp) 1 rfl).mono ?_; rintro e w3 ⟨rfl, own3, m3, hs3, he3⟩)
    | (go_at_call 130; obtain ⟨hs0, he0⟩ := h.texts (.cells zeroPat 101); have hb0 := Blk.new w zeroPat 101; have ho0 := put_same own w.heap.size 8; have hex := expect_new hs0 hpre.good [tWithin] (by simp [KW]) (by simp) 1 rfl; rw [alloc_size] at hex; refine hex.mono ?_; rintro e w1 ⟨rfl, own1, m1, hs1, he1⟩)
    | (go_at_call 131; refine (hn2 own3 w3 m3 hs3).mono ?_; rintro e w4 ⟨rfl, own4, m4, hs4, he4⟩)
    | (go_at_call 131; refine (hn1 own1 w1 m1 hs1).mono ?_; rintro e w2 ⟨rfl, own2, m2, hs2, he2⟩)
    | (go_at_call 132; refine (hseq own4 w4 m4 _ hs4 p4).mono ?_; rintro e w5 ⟨sv, rfl, own5, m5, hs5, he5, hl5⟩; obtain ⟨vp, vn, vc, rfl⟩ := hl5.form; have hE := (((he1.trans he2).trans he3).trans he4).trans he5; have hb5 := hE.blk8 ho0 hb0; have ho5 := (hE.same _ hb0.lt).trans ho0; have z0 := hb5.cell 0; have z1 := hb5.cell 1; have z2 := hb5.cell 2; have g0 := hb5.frozen 0; have g1 := hb5.frozen 1; have g2 := hb5.frozen 2; simp [zeroPat] at z0 z1 z2))
  have hB := hb5.three (.int .i64 wv) (.int .i64 rv) (.slice vp vn vc)
  have k0 := hB.cell 0; have k1 := hB.cell 1; have k2 := hB.cell 2
  simp at k0 k1 k2
  have hgb := grownBy_three w5 w.heap.size (.int .i64 wv) (.int .i64 rv) (.slice vp vn vc)
  refine bodyPost_ret (v := .agg #[.int .i64 wv, .int .i64 rv, .slice vp vn vc]) (by simp [results, Tryz.results82, go_sem, k0, k1, k2]) rfl
    ⟨_, rfl, own5, m5, .slice vp vn vc, ?_, ?_, rfl, ?_⟩
  · exact ((hs5.write8 (p := ⟨w.heap.size, 0, none⟩) ho5 _).write8 (p := ⟨w.heap.size, 1, none⟩) ho5 _).write8 (p := ⟨w.heap.size, 2, none⟩) ho5 _
  · exact (((he0.trans hE).setNew (p := ⟨w.heap.size, 0, none⟩) (Nat.le_refl _) _).setNew (p := ⟨w.heap.size, 1, none⟩) (Nat.le_refl _) _).setNew (p := ⟨w.heap.size, 2, none⟩) (Nat.le_refl _) _
  · exact move7s (own' := own5) hgb (fun k e => by cases e; exact ho5) (fun _ _ _ => rfl) hl5
end Go.Proofs.YtddbjcfdmdbmkaaGreatDoor

namespace Go.Proofs.YtddbjcfdmdbmkaaGreatDoor
open Go.RowKit

def all7 : Nat → Nat := fun _ => 7
theorem Ext.all7 {w w' : World} (h : Below w.heap.size w w') : Ext all7 w all7 w' := ⟨fun _ _ => rfl, (Kept.ofBelow h).mono (fun _ hk => hk.1)⟩
def ownRd (own : Nat → Nat) (N : Nat) : Nat → Nat := put (put own N 8) (N + 1) 1
theorem ownRd_old {own : Nat → Nat} {N k : Nat} (h : k < N) : ownRd own N k = own k := by unfold ownRd; rw [put_other _ _ _ _ (by omega), put_other _ _ _ _ (by omega)]
theorem ownRd_0 (own : Nat → Nat) (N : Nat) : ownRd own N N = 8 := by unfold ownRd; rw [put_other _ _ _ _ (by omega), put_same]
theorem ownRd_1 (own : Nat → Nat) (N : Nat) : ownRd own N (N + 1) = 1 := put_same _ _ _
def readerCells (v : Value) : Array Value := #[v, .int .i64 0, .bool false, .int .i64 0, .bool false, .int .i64 0, .slice none 0 0]

theorem tokRow_of {w : World} {base tg len cap : Nat} {l : List STok} (h : w.ownsRow base 141 3 (.slice (some ⟨tg, 0, none⟩) len cap) l.length (flat STok.cells l)) : TokRow w tg 0 l ∧ l.length = len ∧ l.length ≤ cap := by
  have key : ∀ j i, (hj : j < l.length) → i < 3 → ∀ u, (STok.cells l[j])[i]? = some u → w.cell? ⟨tg, j * 3 + i, none⟩ = some u := by
    intro j i hj hi u hu
    have := h.cells (g := tg) rfl (j * 3 + i) u (by rw [flat_get STok.cells 3 (fun _ => rfl) _ _ _ hj hi]; exact hu)
    have hadd : (⟨tg, 0, none⟩ : Addr).add (j * 3 + i) = ⟨tg, j * 3 + i, none⟩ := by unfold Addr.add; split <;> simp_all
    rw [hadd] at this; exact this
  refine ⟨⟨(h.lt tg rfl).2, fun j hj => ?_, fun j hj => ?_, fun j hj => ?_⟩, ?_⟩
  · rw [Nat.zero_add]; exact key j 0 hj (by decide) _ rfl
  · rw [Nat.zero_add]; exact key j 1 hj (by decide) _ rfl
  · rw [Nat.zero_add]; exact key j 2 hj (by decide) _ rfl
  · rcases h.2 with ⟨e, _⟩ | ⟨g, c, cur, e, _, _, h3, _⟩
    · cases e
    · cases e; exact ⟨rfl, h3⟩
theorem read_start {w : World} {base tg cap : Nat} {l : List STok} (h : w.ownsRow base 141 3 (.slice (some ⟨tg, 0, none⟩) l.length cap) l.length (flat STok.cells l)) {own : Nat → Nat} (hown : own tg = 7) :
    RSt (ownRd own w.heap.size) ((w.alloc (.cells zeroPat 101)).alloc (.cells (readerCells (.slice (some ⟨tg, 0, none⟩) l.length cap)) 177)) (w.heap.size + 1) ⟨tg, 0, cap, .slice none 0 0⟩ (rd0 l) := by
  obtain ⟨ht, _, hc⟩ := tokRow_of h
  have e1 : ((w.alloc (.cells zeroPat 101)).alloc (.cells (readerCells (.slice (some ⟨tg, 0, none⟩) l.length cap)) 177)).heap[tg]? = w.heap[tg]? := by
    rw [Below.heap_alloc _ _ _ (by simp; have := ht.lt; omega), Below.heap_alloc _ _ _ ht.lt]
  refine ⟨alloc_at _ _ _ (by simp), ownRd_1 _ _, ht.of_eq e1 (by simp; omega), (ownRd_old ht.lt).trans hown, hc, fun l e => ?_⟩
  cases e
  exact ⟨World.ownsRow_nil _ _ _ _, fun g hg => by simp [Value.ownBlock] at hg⟩
theorem read_ext {own own1 : Nat → Nat} {w w1 : World} {o1 o2 : Obj} (h : Ext (ownRd own w.heap.size) ((w.alloc o1).alloc o2) own1 w1) : Ext own w own1 w1 := by
  refine ⟨fun k hk => (h.same k (by simp; omega)).trans (ownRd_old hk), h.kept.os, h.kept.tape, h.kept.output, by have := h.size; simp at this; omega, fun k hk => ?_⟩
  rw [h.kept.block k ⟨by simp; omega, by rw [ownRd_old hk.1]; exact hk.2⟩, Below.heap_alloc _ _ _ (by simp; omega), Below.heap_alloc _ _ _ hk.1]

theorem read_end {own own1 : Nat → Nat} {w w1 : World} (hb1 : Blk w1 w.heap.size zeroPat 101) (hB : Ext own w own1 w1) (v0 v1 v2 : Value) (o1 o2 o3 : Obj) :
    Blk ((((((w1.setCell ⟨w.heap.size, 0, none⟩ v0).setCell ⟨w.heap.size, 1, none⟩ v1).setCell ⟨w.heap.size, 2, none⟩ v2).alloc o1).alloc o2).alloc o3) w.heap.size #[v0, v1, v2] 101 ∧
    Ext own w own1 ((((((w1.setCell ⟨w.heap.size, 0, none⟩ v0).setCell ⟨w.heap.size, 1, none⟩ v1).setCell ⟨w.heap.size, 2, none⟩ v2).alloc o1).alloc o2).alloc o3) :=
  ⟨(((hb1.three v0 v1 v2).alloc o1).alloc o2).alloc o3,
   ((((((hB.setNew (p := ⟨w.heap.size, 0, none⟩) (Nat.le_refl _) v0).setNew (p := ⟨w.heap.size, 1, none⟩) (Nat.le_refl _) v1).setNew (p := ⟨w.heap.size, 2, none⟩) (Nat.le_refl _) v2).alloc o1).alloc o2).alloc o3)⟩

def ReadPost (own : Nat → Nat) (w : World) (l : List STok) (v : Value) (w' : World) : Prop := ∃ own', Ext own w own' w' ∧ match readP l with
  | .inr (p, e) => v = .tuple #[.agg #[.int .i64 0, .int .i64 0, .slice none 0 0], .int .i64 p, .int .i64 e]
  | .inl (pat, _) => ∃ sv, v = .tuple #[.agg #[.int .i64 pat.window, .int .i64 pat.rate, sv], .int .i64 0, .int .i64 0] ∧ SeqLie own' w' (l.length + 1) sv pat.body

set_option maxRecDepth 100000 in
set_option maxHeartbeats 800000 in
theorem read_p {w : World} {base tg cap : Nat} {l : List STok} (h : w.ownsRow base 141 3 (.slice (some ⟨tg, 0, none⟩) l.length cap) l.length (flat STok.cells l)) (hG : SGood l) (hl : l.length ≤ 2000) {own : Nat → Nat} (hown : own tg = 7) :
    Calls Tryz.prog 54 #[.slice (some ⟨tg, 0, none⟩) l.length cap] w fun e w' => ∃ v, e = .returned v ∧ ReadPost own w l v w' := by
  have hst := read_start h hown
  have hpre : Pre2 l.length (rd0 l) := ⟨hG, Nat.le_refl _, by show 0 + l.length ≤ _; omega⟩
  have hpat := pattern_p hst hpre
  obtain ⟨r, HR⟩ : ∃ r, Hid (patP l.length (rd0 l) = r) := ⟨_, rfl⟩
  have Hr : Hid (readP l = if r.1.now.kind ≠ 1 then .inr (r.1.now.place, 1) else match r.1.td with | some p => .inr (p, 2) | none => match r.1.bn with | some p => .inr (p, 3) | none => .inl (r.2, 0)) := by
    show _ = _; rw [← HR.out]; rfl
  have Hpos : Hid (0 < r.1.ahead.length) := by
    have a := (expect_ok hpre.good (ts := [tWithin]) (by simp [KW])).good
    have b := (num_ok a 1 1000000).good
    have c := (expect_ok b (ts := [tRate]) (by simp [KW])).good
    have hle : ((((rd0 l).expect [tWithin]).num 1 1000000).expect [tRate] |>.num 1 12).ahead.length ≤ l.length := Nat.le_trans (num_ok c 1 12).le (Nat.le_trans (expect_ok b (ts := [tRate]) (by simp [KW])).le (Nat.le_trans (num_ok a 1 1000000).le (expect_ok hpre.good (ts := [tWithin]) (by simp [KW])).le))
    have d := (seqP_ok (partP_ok l.length) _ (num_ok c 1 12).good hle).good
    rw [← HR.out, patP_def]; exact d.pos
  rw [HR.out] at hpat
  clear HR hG hpre
  have hz := Blk.new w zeroPat 101
  have hz0 := hz.alloc (.cells (readerCells (.slice (some ⟨tg, 0, none⟩) l.length cap)) 177)
  by_cases hk : r.1.now.kind = 1
  · have hk' : ((r.1.now.kind : Int) != 1) = false := by simp [hk]
    have Hr2 : Hid (readP l = match r.1.td with | some p => .inr (p, 2) | none => match r.1.bn with | some p => .inr (p, 3) | none => .inl (r.2, 0)) := by show _ = _; rw [Hr.out, if_neg (by simp [hk])]
    clear hk Hr
    obtain ⟨bn, HBN⟩ : ∃ x, Hid (r.1.bn = x) := ⟨_, rfl⟩
    cases htd : r.1.td with
    | some p =>
      have HTD : Hid (r.1.td = some p) := htd
      have HP : Hid (readP l = .inr (p, 2)) := by show _ = _; rw [Hr2.out, htd]
      clear htd Hr2
      go_enter Tryz.func54, Tryz.ntmps54
      go_wp2_with (first
        | (go_at_call 82; refine hpat.mono ?_; rintro e w1 ⟨v, rfl, own1, m1, sv, hs1, he1, rfl, hl1⟩; obtain ⟨vp, vn, vc, rfl⟩ := hl1.form; have hb1 := he1.blk8 (ownRd_0 _ _) hz0; have hNlt := hb1.lt; have hN1 : w.heap.size < w1.heap.size + 1 := (by omega); have hN2 : w.heap.size < w1.heap.size + 1 + 1 := (by omega); have hR1 := hs1.blk.lt; have hR2 : w.heap.size + 1 < w1.heap.size + 1 := (by omega); have hR3 : w.heap.size + 1 < w1.heap.size + 1 + 1 := (by omega); have c2 := hs1.cell 2; have c3 := hs1.cell 3; have c4 := hs1.cell 4; have c5 := hs1.cell 5; simp [RCells] at c2 c3 c4 c5; rw [HTD.out] at c2 c3; rw [HBN.out] at c4 c5; simp at c2 c3 c4 c5; have z0 := hb1.cell 0; have z1 := hb1.cell 1; have z2 := hb1.cell 2; have g0 := hb1.frozen 0; have g1 := hb1.frozen 1; have g2 := hb1.frozen 2; simp [zeroPat] at z0 z1 z2)
        | (go_at_call 83; refine (now_p (hs1.alloc _) Hpos.out).mono ?_; rintro e w' ⟨rfl, o, rfl⟩))
      go_region
      go_wp2
      have hEnd := read_end hb1 (read_ext he1) (.int .i64 0) (.int .i64 0) (.slice none 0 0) (.cells #[.int .i64 r.2.window, .int .i64 r.2.rate, .slice vp vn vc] 101) o (.cells #[.int .i64 r.1.now.kind, .int .i64 r.1.now.place, .string r.1.now.text] 141)
      have k0 := hEnd.1.drew.cell 0; have k1 := hEnd.1.drew.cell 1; have k2 := hEnd.1.drew.cell 2
      simp at k0 k1 k2
      refine bodyPost_ret (v := .tuple #[.agg #[.int .i64 0, .int .i64 0, .slice none 0 0], .int .i64 p, .int .i64 2]) (by simp [results, Tryz.results54, go_sem, k0, k1, k2]) rfl ⟨_, rfl, own1, hEnd.2.drew, ?_⟩
      rw [HP.out]
      rfl
    | none =>
      have HTD : Hid (r.1.td = none) := htd
      cases hbn : bn with
      | some p =>
        have HBN : Hid (r.1.bn = some p) := HBN.out.trans hbn
        have HP : Hid (readP l = .inr (p, 3)) := by show _ = _; rw [Hr2.out, htd, HBN.out]
        clear htd hbn Hr2
        go_enter Tryz.func54, Tryz.ntmps54
        go_wp2_with (first
          | (go_at_call 82; refine hpat.mono ?_; rintro e w1 ⟨v, rfl, own1, m1, sv, hs1, he1, rfl, hl1⟩; obtain ⟨vp, vn, vc, rfl⟩ := hl1.form; have hb1 := he1.blk8 (ownRd_0 _ _) hz0; have hNlt := hb1.lt; have hN1 : w.heap.size < w1.heap.size + 1 := (by omega); have hN2 : w.heap.size < w1.heap.size + 1 + 1 := (by omega); have hR1 := hs1.blk.lt; have hR2 : w.heap.size + 1 < w1.heap.size + 1 := (by omega); have hR3 : w.heap.size + 1 < w1.heap.size + 1 + 1 := (by omega); have c2 := hs1.cell 2; have c3 := hs1.cell 3; have c4 := hs1.cell 4; have c5 := hs1.cell 5; simp [RCells] at c2 c3 c4 c5; rw [HTD.out] at c2 c3; rw [HBN.out] at c4 c5; simp at c2 c3 c4 c5; have z0 := hb1.cell 0; have z1 := hb1.cell 1; have z2 := hb1.cell 2; have g0 := hb1.frozen 0; have g1 := hb1.frozen 1; have g2 := hb1.frozen 2; simp [zeroPat] at z0 z1 z2)
          | (go_at_call 83; refine (now_p (hs1.alloc _) Hpos.out).mono ?_; rintro e w' ⟨rfl, o, rfl⟩))
        go_region
        go_wp2
        have hEnd := read_end hb1 (read_ext he1) (.int .i64 0) (.int .i64 0) (.slice none 0 0) (.cells #[.int .i64 r.2.window, .int .i64 r.2.rate, .slice vp vn vc] 101) o (.cells #[.int .i64 r.1.now.kind, .int .i64 r.1.now.place, .string r.1.now.text] 141)
        have k0 := hEnd.1.drew.cell 0; have k1 := hEnd.1.drew.cell 1; have k2 := hEnd.1.drew.cell 2
        simp at k0 k1 k2
        refine bodyPost_ret (v := .tuple #[.agg #[.int .i64 0, .int .i64 0, .slice none 0 0], .int .i64 p, .int .i64 3]) (by simp [results, Tryz.results54, go_sem, k0, k1, k2]) rfl ⟨_, rfl, own1, hEnd.2.drew, ?_⟩
        rw [HP.out]
        rfl
      | none =>
        have HBN : Hid (r.1.bn = none) := HBN.out.trans hbn
        have HP : Hid (readP l = .inl (r.2, 0)) := by show _ = _; rw [Hr2.out, htd, HBN.out]
        clear htd hbn Hr2
        go_enter Tryz.func54, Tryz.ntmps54
        go_wp2_with (first
          | (go_at_call 82; refine hpat.mono ?_; rintro e w1 ⟨v, rfl, own1, m1, sv, hs1, he1, rfl, hl1⟩; obtain ⟨vp, vn, vc, rfl⟩ := hl1.form; have hb1 := he1.blk8 (ownRd_0 _ _) hz0; have hNlt := hb1.lt; have hN1 : w.heap.size < w1.heap.size + 1 := (by omega); have hN2 : w.heap.size < w1.heap.size + 1 + 1 := (by omega); have hR1 := hs1.blk.lt; have hR2 : w.heap.size + 1 < w1.heap.size + 1 := (by omega); have hR3 : w.heap.size + 1 < w1.heap.size + 1 + 1 := (by omega); have c2 := hs1.cell 2; have c3 := hs1.cell 3; have c4 := hs1.cell 4; have c5 := hs1.cell 5; simp [RCells] at c2 c3 c4 c5; rw [HTD.out] at c2 c3; rw [HBN.out] at c4 c5; simp at c2 c3 c4 c5; have z0 := hb1.cell 0; have z1 := hb1.cell 1; have z2 := hb1.cell 2; have g0 := hb1.frozen 0; have g1 := hb1.frozen 1; have g2 := hb1.frozen 2; simp [zeroPat] at z0 z1 z2)
          | (go_at_call 83; refine (now_p (hs1.alloc _) Hpos.out).mono ?_; rintro e w' ⟨rfl, o, rfl⟩))
        have hEnd := read_end hb1 (read_ext he1) (.int .i64 r.2.window) (.int .i64 r.2.rate) (.slice vp vn vc) (.cells #[.int .i64 r.2.window, .int .i64 r.2.rate, .slice vp vn vc] 101) o (.cells #[.int .i64 r.1.now.kind, .int .i64 r.1.now.place, .string r.1.now.text] 141)
        have k0 := hEnd.1.cell 0; have k1 := hEnd.1.cell 1; have k2 := hEnd.1.cell 2
        simp at k0 k1 k2
        refine bodyPost_ret (v := .tuple #[.agg #[.int .i64 r.2.window, .int .i64 r.2.rate, .slice vp vn vc], .int .i64 0, .int .i64 0]) (by simp [results, Tryz.results54, go_sem, k0, k1, k2]) rfl ⟨_, rfl, own1, hEnd.2, ?_⟩
        rw [HP.out]
        refine ⟨_, rfl, ?_⟩
        have ho1 := (he1.same _ hz0.lt).trans (ownRd_0 _ _)
        have a := move7s (own' := own1) (grownBy_three w1 w.heap.size (.int .i64 r.2.window) (.int .i64 r.2.rate) (.slice vp vn vc)) (fun k e => by cases e; exact ho1) (fun _ _ _ => rfl) hl1
        have b := move7s (own' := own1) (World.grownBy_alloc _ (.cells #[.int .i64 r.2.window, .int .i64 r.2.rate, .slice vp vn vc] 101) none) (fun k e => by cases e) (fun _ _ _ => rfl) a
        have c := move7s (own' := own1) (World.grownBy_alloc _ o none) (fun k e => by cases e) (fun _ _ _ => rfl) b
        have d := move7s (own' := own1) (World.grownBy_alloc _ (.cells #[.int .i64 r.1.now.kind, .int .i64 r.1.now.place, .string r.1.now.text] 141) none) (fun k e => by cases e) (fun _ _ _ => rfl) c
        exact d
  · have hk' : ((r.1.now.kind : Int) != 1) = true := by simp; omega
    have HP : Hid (readP l = .inr (r.1.now.place, 1)) := by show _ = _; rw [Hr.out, if_pos hk]
    clear hk
    go_enter Tryz.func54, Tryz.ntmps54
    go_wp2_with (first
      | (go_at_call 82; refine hpat.mono ?_; rintro e w1 ⟨v, rfl, own1, m1, sv, hs1, he1, rfl, hl1⟩; obtain ⟨vp, vn, vc, rfl⟩ := hl1.form; have hb1 := he1.blk8 (ownRd_0 _ _) hz0; have hNlt := hb1.lt; have hN1 : w.heap.size < w1.heap.size + 1 := (by omega); have hN2 : w.heap.size < w1.heap.size + 1 + 1 := (by omega); have z0 := hb1.cell 0; have z1 := hb1.cell 1; have z2 := hb1.cell 2; have g0 := hb1.frozen 0; have g1 := hb1.frozen 1; have g2 := hb1.frozen 2; simp [zeroPat] at z0 z1 z2)
      | (go_at_call 83; refine (now_p (hs1.alloc _) Hpos.out).mono ?_; rintro e w' ⟨rfl, o, rfl⟩))
    go_region
    go_wp2
    have hEnd := read_end hb1 (read_ext he1) (.int .i64 0) (.int .i64 0) (.slice none 0 0) (.cells #[.int .i64 r.2.window, .int .i64 r.2.rate, .slice vp vn vc] 101) o (.cells #[.int .i64 r.1.now.kind, .int .i64 r.1.now.place, .string r.1.now.text] 141)
    have k0 := hEnd.1.drew.cell 0; have k1 := hEnd.1.drew.cell 1; have k2 := hEnd.1.drew.cell 2
    simp at k0 k1 k2
    refine bodyPost_ret (v := .tuple #[.agg #[.int .i64 0, .int .i64 0, .slice none 0 0], .int .i64 r.1.now.place, .int .i64 1]) (by simp [results, Tryz.results54, go_sem, k0, k1, k2]) rfl ⟨_, rfl, own1, hEnd.2.drew, ?_⟩
    rw [HP.out]
    rfl
end Go.Proofs.YtddbjcfdmdbmkaaGreatDoor

namespace Go.Proofs.YtddbjcfdmdbmkaaGreatDoor
open Go.RowKit

def sizePartP (rec : List PPart → Nat × Nat) (p : PPart) : Nat × Nat :=
  if p.choices.isEmpty then (1, p.times) else p.choices.foldl (fun a c => (a.1 + (rec c).1, max a.2 (rec c).2)) (0, 0)
def sizeStep (rec : List PPart → Nat × Nat) (a : Nat × Nat) (p : PPart) : Nat × Nat := (min (a.1 * (sizePartP rec p).1) 17, a.2 + (sizePartP rec p).2)
def sizeP : Nat → List PPart → Nat × Nat
  | 0, _ => (1, 0)
  | n + 1, l => l.foldl (sizeStep (sizeP n)) (1, 0)
def bnd : Nat → List PPart → Nat
  | 0, _ => 0
  | n + 1, l => (l.map fun p => p.times + 1 + (p.choices.map fun c => bnd n c + 1).sum).sum

theorem sum_take_le (l : List Nat) (k : Nat) : (l.take k).sum ≤ l.sum := by
  induction l generalizing k with
  | nil => simp
  | cons a l ih => cases k with
    | zero => simp
    | succ k => simp; exact ih k
theorem mem_le_sum {l : List Nat} {a : Nat} (h : a ∈ l) : a ≤ l.sum := by
  induction l with
  | nil => simp at h
  | cons b l ih =>
    simp only [List.mem_cons] at h
    rcases h with rfl | h
    · simp
    · have := ih h; simp; omega
theorem len_le_sum (l : List Nat) (h : ∀ a ∈ l, 1 ≤ a) : l.length ≤ l.sum := by
  induction l with
  | nil => simp
  | cons b l ih =>
    have h1 := h b (List.mem_cons_self ..)
    have h2 := ih (fun a ha => h a (List.mem_cons_of_mem _ ha))
    simp; omega

theorem sizeP_count (n : Nat) (l : List PPart) : (sizeP n l).1 ≤ 17 := by
  cases n with
  | zero => show 1 ≤ 17; omega
  | succ n =>
    have key : ∀ (l : List PPart) (a : Nat × Nat), a.1 ≤ 17 → (l.foldl (sizeStep (sizeP n)) a).1 ≤ 17 := by
      intro l
      induction l with
      | nil => intro a h; exact h
      | cons p l ih => intro a _; exact ih _ (Nat.min_le_right _ _)
    exact key l (1, 0) (by show 1 ≤ 17; omega)
def partAcc (rec : List PPart → Nat × Nat) (c : List (List PPart)) (k : Nat) : Nat × Nat := (c.take k).foldl (fun a c => (a.1 + (rec c).1, max a.2 (rec c).2)) (0, 0)
def seqAcc (rec : List PPart → Nat × Nat) (l : List PPart) (k : Nat) : Nat × Nat := (l.take k).foldl (sizeStep rec) (1, 0)
theorem partAcc_succ (rec : List PPart → Nat × Nat) (c : List (List PPart)) (k : Nat) (h : k < c.length) : partAcc rec c (k + 1) = ((partAcc rec c k).1 + (rec c[k]).1, max (partAcc rec c k).2 (rec c[k]).2) := by
  unfold partAcc; rw [List.take_succ_eq_append_getElem h, List.foldl_append]; rfl
theorem seqAcc_succ (rec : List PPart → Nat × Nat) (l : List PPart) (k : Nat) (h : k < l.length) : seqAcc rec l (k + 1) = sizeStep rec (seqAcc rec l k) l[k] := by
  unfold seqAcc; rw [List.take_succ_eq_append_getElem h, List.foldl_append]; rfl
theorem partAcc_le {n : Nat} {c : List (List PPart)} (hs : ∀ x ∈ c, (sizeP n x).2 ≤ bnd n x) : ∀ k, k ≤ c.length → (partAcc (sizeP n) c k).1 ≤ 17 * k ∧ (partAcc (sizeP n) c k).2 ≤ (c.map fun x => bnd n x + 1).sum := by
  intro k
  induction k with
  | zero => intro _; exact ⟨by show 0 ≤ _; omega, by show 0 ≤ _; omega⟩
  | succ k ih =>
    intro hk
    have h := ih (by omega)
    rw [partAcc_succ _ _ _ (by omega)]
    have hm : c[k] ∈ c := List.getElem_mem (by omega)
    have h1 := sizeP_count n c[k]
    have h2 := hs _ hm
    have h3 : bnd n c[k] + 1 ≤ (c.map fun x => bnd n x + 1).sum := mem_le_sum (List.mem_map.2 ⟨_, hm, rfl⟩)
    exact ⟨by show _ + _ ≤ _; omega, by show max _ _ ≤ _; omega⟩
theorem sizePart_le {n : Nat} {p : PPart} (hs : ∀ x ∈ p.choices, (sizeP n x).2 ≤ bnd n x) : (sizePartP (sizeP n) p).1 ≤ 17 * (p.choices.map fun x => bnd n x + 1).sum + 1 ∧ (sizePartP (sizeP n) p).2 ≤ p.times + 1 + (p.choices.map fun x => bnd n x + 1).sum := by
  unfold sizePartP
  split
  · exact ⟨by show 1 ≤ _; omega, by show p.times ≤ _; omega⟩
  · have h := partAcc_le hs p.choices.length (Nat.le_refl _)
    have e : partAcc (sizeP n) p.choices p.choices.length = p.choices.foldl (fun a c => (a.1 + (sizeP n c).1, max a.2 (sizeP n c).2)) (0, 0) := by unfold partAcc; rw [List.take_length]
    rw [e] at h
    have hl := len_le_sum (p.choices.map fun x => bnd n x + 1) (fun a ha => by obtain ⟨x, _, rfl⟩ := List.mem_map.1 ha; omega)
    rw [List.length_map] at hl
    exact ⟨by have := h.1; omega, by have := h.2; omega⟩
theorem seqAcc_le {n : Nat} {l : List PPart} (hs : ∀ p ∈ l, ∀ x ∈ p.choices, (sizeP n x).2 ≤ bnd n x) : ∀ k, k ≤ l.length → (seqAcc (sizeP n) l k).1 ≤ 17 ∧ (seqAcc (sizeP n) l k).2 ≤ ((l.map fun p => p.times + 1 + (p.choices.map fun c => bnd n c + 1).sum).take k).sum := by
  intro k
  induction k with
  | zero => intro _; exact ⟨by show 1 ≤ 17; omega, by show 0 ≤ _; omega⟩
  | succ k ih =>
    intro hk
    have h := ih (by omega)
    rw [seqAcc_succ _ _ _ (by omega)]
    refine ⟨Nat.min_le_right _ _, ?_⟩
    have hm : l[k] ∈ l := List.getElem_mem (by omega)
    have h2 := (sizePart_le (hs _ hm)).2
    rw [List.take_succ_eq_append_getElem (by rw [List.length_map]; omega), List.sum_append]
    have h3 := h.2
    simp only [List.getElem_map, List.sum_cons, List.sum_nil]
    show _ + _ ≤ _
    omega
theorem sizeP_le : ∀ n l, (sizeP n l).2 ≤ bnd n l := by
  intro n
  induction n with
  | zero => intro l; show 0 ≤ _; omega
  | succ n ih =>
    intro l
    have h := (seqAcc_le (l := l) (fun p _ x _ => ih x) l.length (Nat.le_refl _)).2
    have e : seqAcc (sizeP n) l l.length = sizeP (n + 1) l := by unfold seqAcc; rw [List.take_length]; rfl
    rw [e] at h
    exact Nat.le_trans h (sum_take_le _ _)
theorem bnd_choices {n : Nat} {l : List PPart} {p : PPart} (h : p ∈ l) : p.times + 1 + (p.choices.map fun c => bnd n c + 1).sum ≤ bnd (n + 1) l := mem_le_sum (List.mem_map.2 ⟨p, h, rfl⟩)
theorem bnd_len {n : Nat} {l : List PPart} : l.length ≤ bnd (n + 1) l := by
  have := len_le_sum (l.map fun p : PPart => p.times + 1 + (p.choices.map fun c => bnd n c + 1).sum) (fun a ha => by obtain ⟨x, _, rfl⟩ := List.mem_map.1 ha; omega)
  rw [List.length_map] at this; exact this
end Go.Proofs.YtddbjcfdmdbmkaaGreatDoor

namespace Go.Proofs.YtddbjcfdmdbmkaaGreatDoor
open Go.RowKit

theorem SeqLie.open {own : Nat → Nat} {w : World} {n : Nat} {v : Value} {l : List PPart} (h : SeqLie own w (n + 1) v l) : (l = [] ∧ ∃ p c, v = .slice p 0 c) ∨ ∃ g cap, v = .slice (some ⟨g, 0, none⟩) l.length cap ∧ g < w.heap.size ∧
    ∀ k, (hk : k < l.length) → ∃ cv hv, PartLie own w n l[k] cv hv ∧ w.cell? ⟨g, k * 6, none⟩ = some (.string l[k].name) ∧ w.cell? ⟨g, k * 6 + 1, none⟩ = some (.int .i64 l[k].place) ∧ w.cell? ⟨g, k * 6 + 2, none⟩ = some (.int .i64 l[k].times) ∧ w.cell? ⟨g, k * 6 + 3, none⟩ = some (.int .i64 l[k].kind) ∧ w.cell? ⟨g, k * 6 + 4, none⟩ = some cv ∧ w.cell? ⟨g, k * 6 + 5, none⟩ = some hv := by
  obtain ⟨xs, hl, hrow, _, hlie⟩ := h
  rcases hrow.2 with ⟨rfl, h0⟩ | ⟨g, cap, cur, rfl, _, hg, _⟩
  · exact .inl ⟨List.eq_nil_of_length_eq_zero h0, _, _, rfl⟩
  · refine .inr ⟨g, cap, rfl, (Array.getElem?_eq_some_iff.1 hg).1, fun k hk => ⟨(xs[k]'(by omega)).1, (xs[k]'(by omega)).2, ?_, ?_⟩⟩
    · have hz : k < (l.zip xs).length := by rw [List.length_zip]; omega
      have := hlie _ (List.getElem_mem hz)
      unfold PartLie
      simpa using this
    · have hz : k < (l.zip xs).length := by rw [List.length_zip]; omega
      have key : ∀ i, i < 6 → ∀ u, (partCells (l[k], xs[k]'(by omega)))[i]? = some u → w.cell? ⟨g, k * 6 + i, none⟩ = some u := by
        intro i hi u hu
        have := hrow.cells (g := g) rfl (k * 6 + i) u (by rw [flat_get partCells 6 (fun _ => rfl) _ _ _ hz hi]; simpa using hu)
        have hadd : (⟨g, 0, none⟩ : Addr).add (k * 6 + i) = ⟨g, k * 6 + i, none⟩ := by unfold Addr.add; split <;> simp_all
        rw [hadd] at this; exact this
      exact ⟨key 0 (by decide) _ rfl, key 1 (by decide) _ rfl, key 2 (by decide) _ rfl, key 3 (by decide) _ rfl, key 4 (by decide) _ rfl, key 5 (by decide) _ rfl⟩
theorem ChBy.open {own : Nat → Nat} {w : World} {S : Value → List PPart → Prop} {v : Value} {c : List (List PPart)} (h : ChBy own w S v c) (hc : c ≠ []) : ∃ g cap, v = .slice (some ⟨g, 0, none⟩) c.length cap ∧ g < w.heap.size ∧ ∀ k, (hk : k < c.length) → ∃ sv, S sv c[k] ∧ w.cell? ⟨g, k, none⟩ = some sv := by
  rcases h with ⟨h0, _⟩ | ⟨_, vs, hl, hrow, _, hlie⟩
  · exact absurd h0 hc
  · rcases hrow.2 with ⟨rfl, h0⟩ | ⟨g, cap, cur, rfl, _, hg, _⟩
    · exact absurd (List.eq_nil_of_length_eq_zero h0) hc
    · refine ⟨g, cap, rfl, (Array.getElem?_eq_some_iff.1 hg).1, fun k hk => ⟨vs[k]'(by omega), ?_, ?_⟩⟩
      · have hz : k < (c.zip vs).length := by rw [List.length_zip]; omega
        have := hlie _ (List.getElem_mem hz)
        simpa using this
      · have := hrow.cells (g := g) rfl k (vs[k]'(by omega)) (by simp [show k < vs.length by omega])
        have hadd : (⟨g, 0, none⟩ : Addr).add k = ⟨g, k, none⟩ := by unfold Addr.add; split <;> simp_all
        rw [hadd] at this; exact this

theorem nil_yes (w : World) : (binOp .eql 187 (.slice none 0 0) (.slice none 0 0)).run Tryz.prog w = .ok (.bool true) w := by kernel_rfl
theorem nil_no (a : Addr) (n c : Nat) (w : World) : (binOp .eql 187 (.slice (some a) n c) (.slice none 0 0)).run Tryz.prog w = .ok (.bool false) w := by kernel_rfl

def SizeC (n : Nat) : Prop := ∀ (own : Nat → Nat) (w : World) (v : Value) (l : List PPart), SeqLie own w n v l → bnd n l ≤ 100000000000000 →
  Calls Tryz.prog 133 #[v] w fun e w' => e = .returned (.tuple #[.int .i64 (sizeP n l).1, .int .i64 (sizeP n l).2]) ∧ Below w.heap.size w w'

set_option maxRecDepth 100000 in
set_option maxHeartbeats 800000 in
theorem sizeOfPart_p {n : Nat} (ih : SizeC n) {own : Nat → Nat} {w : World} {p : PPart} {cv hv : Value} (h : PartLie own w n p cv hv) (hb : p.times + 1 + (p.choices.map fun c => bnd n c + 1).sum ≤ 100000000000000) :
    Calls Tryz.prog 169 #[partVal p cv hv] w fun e w' => e = .returned (.tuple #[.int .i64 (sizePartP (sizeP n) p).1, .int .i64 (sizePartP (sizeP n) p).2]) ∧ Below w.heap.size w w' := by
  by_cases hc : p.choices = []
  · have HP : Hid (sizePartP (sizeP n) p = (1, p.times)) := by show _ = _; unfold sizePartP; rw [if_pos (by simp [hc])]
    have hv' : hv = .slice none 0 0 := by
      rcases h.2 with ⟨_, e⟩ | ⟨h0, _⟩
      · exact e
      · exact absurd hc h0
    subst hv'
    have hnil := nil_yes
    simp only [partVal]
    go_enter Tryz.func169, Tryz.ntmps169
    go_wp2
    go_quiet (fail)
    go_wp2
    go_ret2
    rw [HP.out]
    exact ⟨rfl, below_grown ((Below.refl _ _).alloc (Nat.le_refl _) _) (grownBy_drewN _ _ none) (fun g e => by cases e)⟩
  · obtain ⟨g, cap, rfl, hg, hcell⟩ := h.2.open hc
    have hnil := nil_no
    have HP : Hid (sizePartP (sizeP n) p = partAcc (sizeP n) p.choices p.choices.length) := by
      show _ = _; unfold sizePartP partAcc; rw [if_neg (by simpa using hc), List.take_length]
    have hlen : p.choices.length ≤ 100000000000000 := by
      have hl := len_le_sum (p.choices.map fun x => bnd n x + 1) (fun a ha => by obtain ⟨x, _, rfl⟩ := List.mem_map.1 ha; omega)
      rw [List.length_map] at hl; omega
    have HL : ∀ k, k ≤ p.choices.length → Hid ((partAcc (sizeP n) p.choices k).1 ≤ 17 * 100000000000000 ∧ (partAcc (sizeP n) p.choices k).2 ≤ 100000000000000) := fun k hk => by
      have := partAcc_le (fun x _ => sizeP_le n x) k hk
      exact ⟨by omega, by omega⟩
    simp only [partVal]
    generalize p.choices = c at *
    go_enter Tryz.func169, Tryz.ntmps169
    go_wp2
    go_loopw [2, 3, 16] (fun a b i wr => ∃ k : Nat, k ≤ c.length ∧ i = .int .i64 k ∧ a = .int .i64 (partAcc (sizeP n) c k).1 ∧ b = .int .i64 (partAcc (sizeP n) c k).2 ∧ Below w.heap.size w wr) (fun _ _ i _ => c.length - (intOf i).toNat)
    case atStart => exact ⟨0, Nat.zero_le _, rfl, rfl, rfl, (Below.refl _ _).alloc (Nat.le_refl _) _⟩
    case round =>
      obtain ⟨k, hk, rfl, rfl, rfl, hbel⟩ := hrel
      by_cases hlt : k < c.length
      · obtain ⟨sv, hS, hcl⟩ := hcell k hlt
        have hcl' := (hbel.cell (p := ⟨g, k, none⟩) hg).trans hcl
        have hS' := SeqLie.ext (own' := own) (w' := wr) ⟨fun _ _ => rfl, (Kept.ofBelow hbel).mono (fun _ hk => hk.1)⟩ n _ _ hS
        have hbk : bnd n c[k] ≤ 100000000000000 := by
          have := mem_le_sum (l := c.map fun x => bnd n x + 1) (List.mem_map.2 ⟨c[k], List.getElem_mem hlt, rfl⟩)
          omega
        have hcall := ih own wr sv c[k] hS' hbk
        obtain ⟨sp, sn, sc, rfl⟩ := hS.form
        have HA := partAcc_succ (sizeP n) c k hlt
        have H1 := (HL k hk).out
        have H2 := (HL (k + 1) hlt).out
        rw [HA] at H2
        have HA' : Hid _ := HA
        clear HA
        obtain ⟨h1, h2⟩ := H1
        obtain ⟨h3, h4⟩ := H2
        simp only at h3 h4
        have hki : (k : Int) < (c.length : Int) := by omega
        have hc17 := sizeP_count n c[k]
        clear hcell HL
        generalize (sizeP n c[k]).1 = x1 at *
        generalize (sizeP n c[k]).2 = x2 at *
        generalize (partAcc (sizeP n) c k).1 = y1 at *
        generalize (partAcc (sizeP n) c k).2 = y2 at *
        go_wp2_with (go_at_call 133; refine hcall.mono ?_; rintro e w1 ⟨rfl, hb1⟩)
        go_roundw
        case rel => exact ⟨k + 1, hlt, by go_num, by rw [HA'.out]; congr 1, by rw [HA'.out]; congr 1; simp only; omega, hbel.trans (hb1.mono hbel.size)⟩
        case measure => simp [intOf]; omega
      · have ek : k = c.length := by omega
        subst ek
        go_wp2
        go_ret2
        rw [HP.out]
        exact ⟨rfl, hbel⟩

set_option maxRecDepth 100000 in
set_option maxHeartbeats 800000 in
theorem size_p : ∀ n, SizeC n := by
  intro n
  induction n with
  | zero => intro own w v l h; exact h.elim
  | succ n ih =>
    intro own w v l h hb
    have HL : ∀ k, k ≤ l.length → Hid ((seqAcc (sizeP n) l k).1 ≤ 17 ∧ (seqAcc (sizeP n) l k).2 ≤ 100000000000000) := fun k hk => by
      have := seqAcc_le (l := l) (fun p _ x _ => sizeP_le n x) k hk
      exact ⟨this.1, Nat.le_trans this.2 (Nat.le_trans (sum_take_le _ _) hb)⟩
    have HP : Hid (sizeP (n + 1) l = seqAcc (sizeP n) l l.length) := by show _ = _; unfold seqAcc; rw [List.take_length]; rfl
    have hlen : l.length ≤ 100000000000000 := Nat.le_trans bnd_len hb
    rcases h.open with ⟨rfl, p0, c0, rfl⟩ | ⟨g, cap, rfl, hg, hcell⟩
    · go_enter Tryz.func133, Tryz.ntmps133
      go_wp2
      go_loopw [2, 3, 10] (fun a b i wr => a = .int .i64 1 ∧ b = .int .i64 0 ∧ i = .int .i64 0 ∧ wr = w) (fun _ _ _ _ => 0)
      case atStart => exact ⟨rfl, rfl, rfl, rfl⟩
      case round =>
        obtain ⟨rfl, rfl, rfl, rfl⟩ := hrel
        go_wp2
        go_ret2
        exact ⟨rfl, Below.refl _ _⟩
    · have hbp : ∀ k, (hk : k < l.length) → l[k].times + 1 + (l[k].choices.map fun c => bnd n c + 1).sum ≤ 100000000000000 := fun k hk => Nat.le_trans (bnd_choices (List.getElem_mem hk)) hb
      have hsl : ∀ k, (hk : k < l.length) → (sizePartP (sizeP n) l[k]).1 ≤ 17 * 100000000000000 + 1 ∧ (sizePartP (sizeP n) l[k]).2 ≤ 100000000000000 := fun k hk => by
        have a := sizePart_le (n := n) (p := l[k]) (fun x _ => sizeP_le n x)
        have b := hbp k hk
        exact ⟨by omega, by omega⟩
      clear h hb
      go_enter Tryz.func133, Tryz.ntmps133
      go_wp2
      go_loopw [2, 3, 10] (fun a b i wr => ∃ k : Nat, k ≤ l.length ∧ i = .int .i64 k ∧ a = .int .i64 (seqAcc (sizeP n) l k).1 ∧ b = .int .i64 (seqAcc (sizeP n) l k).2 ∧ Below w.heap.size w wr) (fun _ _ i _ => l.length - (intOf i).toNat)
      case atStart => exact ⟨0, Nat.zero_le _, rfl, rfl, rfl, Below.refl _ _⟩
      case round =>
        obtain ⟨k, hk, rfl, rfl, rfl, hbel⟩ := hrel
        by_cases hlt : k < l.length
        · obtain ⟨cv, hv, hPL, c0, c1, c2, c3, c4, c5⟩ := hcell k hlt
          have tr : ∀ i u, w.cell? ⟨g, k * 6 + i, none⟩ = some u → wr.cell? ⟨g, k * 6 + i, none⟩ = some u := fun i u e => (hbel.cell (p := ⟨g, k * 6 + i, none⟩) hg).trans e
          have d0 := tr 0 _ c0; have d1 := tr 1 _ c1; have d2 := tr 2 _ c2; have d3 := tr 3 _ c3; have d4 := tr 4 _ c4; have d5 := tr 5 _ c5
          rw [Nat.add_zero] at d0
          have hPL' : PartLie own (wr.alloc (.cells #[.string l[k].name, .int .i64 l[k].place, .int .i64 l[k].times, .int .i64 l[k].kind, cv, hv] 189)) n l[k] cv hv :=
            hPL.ext ⟨fun _ _ => rfl, (Kept.ofBelow (hbel.alloc hbel.size _)).mono (fun _ hk => hk.1)⟩
          have hcall := sizeOfPart_p ih hPL' (hbp k hlt)
          obtain ⟨cp, cn, cc, rfl⟩ := row_form hPL.1.1
          obtain ⟨hp, hn, hc, rfl⟩ := hPL.2.form
          have HA' : Hid (seqAcc (sizeP n) l (k + 1) = sizeStep (sizeP n) (seqAcc (sizeP n) l k) l[k]) := seqAcc_succ (sizeP n) l k hlt
          have HX : Hid (sizeStep (sizeP n) (seqAcc (sizeP n) l k) l[k] = (min ((seqAcc (sizeP n) l k).1 * (sizePartP (sizeP n) l[k]).1) 17, (seqAcc (sizeP n) l k).2 + (sizePartP (sizeP n) l[k]).2)) := rfl
          obtain ⟨h1, h2⟩ := (HL k hk).out
          have H2 := (HL (k + 1) hlt).out
          rw [HA'.out, HX.out] at H2
          obtain ⟨h3, h4⟩ := H2
          simp only at h3 h4
          obtain ⟨h5, h6⟩ := hsl k hlt
          have hki : (k : Int) < (l.length : Int) := by omega
          have hk0 : (0 : Int) ≤ (k : Int) := by omega
          simp only [partVal] at hcall
          clear hcell HL tr hPL hPL' hsl hbp c0 c1 c2 c3 c4 c5
          generalize (sizePartP (sizeP n) l[k]).1 = x1 at *
          generalize (sizePartP (sizeP n) l[k]).2 = x2 at *
          generalize (seqAcc (sizeP n) l k).1 = y1 at *
          generalize (seqAcc (sizeP n) l k).2 = y2 at *
          have hm : y1 * x1 ≤ 17 * (17 * 100000000000000 + 1) := Nat.mul_le_mul h1 h5
          have hmz : ((y1 : Int) * (x1 : Int)) = ((y1 * x1 : Nat) : Int) := by simp
          generalize y1 * x1 = z at *
          go_wp2_with (go_at_call 169; refine hcall.mono ?_; rintro e w1 ⟨rfl, hb1⟩)
          go_roundw
          case rel => exact ⟨k + 1, hlt, by go_num, by rw [HA'.out, HX.out]; congr 1; simp only; omega, by rw [HA'.out, HX.out]; congr 1, below_grown (hbel.alloc hbel.size _) (grownBy_below hb1) (fun g e => by cases e)⟩
          case measure => simp [intOf]; omega
        · have ek : k = l.length := by omega
          subst ek
          go_wp2
          go_ret2
          rw [HP.out]
          exact ⟨rfl, hbel⟩

def isBigP (n : Nat) (l : List PPart) : Bool := decide (16 < (sizeP n l).1) || decide (8 < (sizeP n l).2)
set_option maxHeartbeats 400000 in
theorem isBig_p {n : Nat} {own : Nat → Nat} {w : World} {v : Value} {l : List PPart} (h : SeqLie own w n v l) (hb : bnd n l ≤ 100000000000000) :
    Calls Tryz.prog 84 #[v] w fun e w' => e = .returned (.bool (isBigP n l)) ∧ Below w.heap.size w w' := by
  have hcall := size_p n own w v l h hb
  have h1 := sizeP_count n l
  have h2 := Nat.le_trans (sizeP_le n l) hb
  have HB : Hid (isBigP n l = (decide (16 < (sizeP n l).1) || decide (8 < (sizeP n l).2))) := rfl
  obtain ⟨sp, sn, sc, rfl⟩ := h.form
  generalize (sizeP n l).1 = x1 at *
  generalize (sizeP n l).2 = x2 at *
  by_cases h16 : 16 < x1
  · have hi : (16 : Int) < (x1 : Int) := by omega
    have hd : decide ((16 : Int) < (x1 : Int)) = true := by simpa using hi
    go_enter Tryz.func84, Tryz.ntmps84
    go_wp2_with (go_at_call 133; refine hcall.mono ?_; rintro e w1 ⟨rfl, hb1⟩)
    go_ret
    exact ⟨ret_bool (by rw [HB.out]; simp [h16]), hb1⟩
  · have hi : ¬ (16 : Int) < (x1 : Int) := by omega
    have hd : decide ((16 : Int) < (x1 : Int)) = false := by simpa using hi
    go_enter Tryz.func84, Tryz.ntmps84
    go_wp2_with (go_at_call 133; refine hcall.mono ?_; rintro e w1 ⟨rfl, hb1⟩)
    go_ret
    exact ⟨ret_bool (by rw [HB.out]; simp [h16]; omega), hb1⟩
end Go.Proofs.YtddbjcfdmdbmkaaGreatDoor

namespace Go.Proofs.YtddbjcfdmdbmkaaGreatDoor
open Go.RowKit

structure PathAt (own : Nat → Nat) (w : World) (g off : Nat) (l : List PPart) : Prop where
  lt : g < w.heap.size
  col : own g = 7
  part : ∀ k, (hk : k < l.length) → ∃ cv hv, OpsLie own w cv l[k].cond ∧ (∃ a b c, hv = .slice a b c) ∧ w.cell? ⟨g, (off + k) * 6, none⟩ = some (.string l[k].name) ∧ w.cell? ⟨g, (off + k) * 6 + 1, none⟩ = some (.int .i64 l[k].place) ∧ w.cell? ⟨g, (off + k) * 6 + 2, none⟩ = some (.int .i64 l[k].times) ∧ w.cell? ⟨g, (off + k) * 6 + 3, none⟩ = some (.int .i64 l[k].kind) ∧ w.cell? ⟨g, (off + k) * 6 + 4, none⟩ = some cv ∧ w.cell? ⟨g, (off + k) * 6 + 5, none⟩ = some hv
def PathV (own : Nat → Nat) (w : World) (v : Value) (l : List PPart) : Prop := (l = [] ∧ ∃ p c, v = .slice p 0 c) ∨ ∃ g off cap, v = .slice (some ⟨g, off * 6, none⟩) l.length cap ∧ l.length ≤ cap ∧ PathAt own w g off l
theorem PathAt.ext {own own' : Nat → Nat} {w w' : World} {g off : Nat} {l : List PPart} (h : PathAt own w g off l) (hE : Ext own w own' w') : PathAt own' w' g off l := by
  have e := hE.kept.block g ⟨h.lt, by rw [h.col]; decide⟩
  refine ⟨Nat.lt_of_lt_of_le h.lt hE.size, (hE.same g h.lt).trans h.col, fun k hk => ?_⟩
  obtain ⟨cv, hv, ho, hf, c0, c1, c2, c3, c4, c5⟩ := h.part k hk
  exact ⟨cv, hv, ho.ext hE, hf, (cell_eq e _).trans c0, (cell_eq e _).trans c1, (cell_eq e _).trans c2, (cell_eq e _).trans c3, (cell_eq e _).trans c4, (cell_eq e _).trans c5⟩
theorem PathV.ext {own own' : Nat → Nat} {w w' : World} {v : Value} {l : List PPart} (h : PathV own w v l) (hE : Ext own w own' w') : PathV own' w' v l := by
  rcases h with h | ⟨g, off, cap, h1, h2, h3⟩
  · exact .inl h
  · exact .inr ⟨g, off, cap, h1, h2, h3.ext hE⟩
theorem Ext.of_below {own : Nat → Nat} {w w' : World} (h : Below w.heap.size w w') : Ext own w own w' := ⟨fun _ _ => rfl, (Kept.ofBelow h).mono (fun _ hk => hk.1)⟩

def isStepB (p : PPart) : Bool := !(p.name.toList == [])
set_option maxHeartbeats 400000 in
theorem isStep_p (p : PPart) (cv hv : Value) (hc : ∃ a b c, cv = .slice a b c) (hh : ∃ a b c, hv = .slice a b c) (w : World) :
    Calls Tryz.prog 91 #[partVal p cv hv] w fun e w' => e = .returned (.bool (isStepB p)) ∧ ∃ o, w' = w.alloc o := by
  obtain ⟨a, b, c, rfl⟩ := hc
  obtain ⟨a', b', c', rfl⟩ := hh
  have e : ∀ l : List UInt8, l.isEmpty = (l == []) := fun l => by cases l <;> rfl
  have HB : Hid (isStepB p = !(p.name.toList.isEmpty)) := by show _ = _; unfold isStepB; rw [e]
  clear e
  simp only [partVal]
  go_enter Tryz.func91, Tryz.ntmps91
  go_wp2
  go_ret
  exact ⟨ret_bool HB.out.symm, _, rfl⟩

def stepsN (l : List PPart) : Nat := (l.filter isStepB).length
theorem stepsN_succ (l : List PPart) (k : Nat) (h : k < l.length) : stepsN (l.take (k + 1)) = stepsN (l.take k) + if isStepB l[k] then 1 else 0 := by
  unfold stepsN
  rw [List.take_succ_eq_append_getElem h, List.filter_append, List.length_append]
  cases hs : isStepB l[k] <;> simp [hs]
theorem stepsN_le (l : List PPart) : stepsN l ≤ l.length := List.length_filter_le _ _

set_option maxRecDepth 100000 in
set_option maxHeartbeats 800000 in
theorem stepsOf_p {own : Nat → Nat} {w : World} {v : Value} {l : List PPart} (h : PathV own w v l) (hl : l.length ≤ 1000000) :
    Calls Tryz.prog 136 #[v] w fun e w' => e = .returned (.int .i64 (stepsN l)) ∧ Below w.heap.size w w' := by
  rcases h with ⟨rfl, p0, c0, rfl⟩ | ⟨g, off, cap, rfl, hcap, hP⟩
  · go_enter Tryz.func136, Tryz.ntmps136
    go_wp2
    go_loopw [3, 8] (fun a i wr => a = .int .i64 0 ∧ i = .int .i64 0 ∧ wr = w) (fun _ _ _ => 0)
    case atStart => exact ⟨rfl, rfl, rfl⟩
    case round =>
      obtain ⟨rfl, rfl, rfl⟩ := hrel
      go_wp2
      go_ret
      exact ⟨rfl, Below.refl _ _⟩
  · go_enter Tryz.func136, Tryz.ntmps136
    go_wp2
    go_loopw [3, 8] (fun a i wr => ∃ k : Nat, k ≤ l.length ∧ i = .int .i64 k ∧ a = .int .i64 (stepsN (l.take k)) ∧ Below w.heap.size w wr) (fun _ i _ => l.length - (intOf i).toNat)
    case atStart => exact ⟨0, Nat.zero_le _, rfl, rfl, Below.refl _ _⟩
    case round =>
      obtain ⟨k, hk, rfl, rfl, hbel⟩ := hrel
      have hs1 := stepsN_le (l.take k)
      rw [List.length_take] at hs1
      by_cases hlt : k < l.length
      · obtain ⟨cv, hv, ho, hf, d0, d1, d2, d3, d4, d5⟩ := (hP.ext (Ext.of_below hbel)).part k hlt
        have e6 : (off + k) * 6 = off * 6 + k * 6 := by omega
        rw [e6] at d0 d1 d2 d3 d4 d5
        have HS : Hid (stepsN (l.take (k + 1)) = stepsN (l.take k) + if isStepB l[k] then 1 else 0) := stepsN_succ l k hlt
        have hcall := fun w => isStep_p l[k] cv hv (row_form ho.1) hf w
        obtain ⟨cp, cn, cc, rfl⟩ := row_form ho.1
        obtain ⟨a', b', c', rfl⟩ := hf
        have hki : (k : Int) < (l.length : Int) := by omega
        have hk0 : (0 : Int) ≤ (k : Int) := by omega
        simp only [partVal] at hcall
        clear e6 ho
        generalize off * 6 = of6 at *
        cases hb : isStepB l[k] with
        | true =>
          rw [hb] at hcall HS
          simp only [if_true] at HS
          go_wp2_with (go_at_call 91; refine (hcall _).mono ?_; rintro e w1 ⟨rfl, o, rfl⟩)
          go_roundw
          case rel => exact ⟨k + 1, hlt, by go_num, by rw [HS.out]; go_num, (hbel.alloc hbel.size _).alloc (by simp; have := hbel.size; omega) _⟩
          case measure => simp [intOf]; omega
        | false =>
          rw [hb] at hcall HS
          simp only [Bool.false_eq_true, if_false, Nat.add_zero] at HS
          go_wp2_with (go_at_call 91; refine (hcall _).mono ?_; rintro e w1 ⟨rfl, o, rfl⟩)
          go_roundw
          case rel => exact ⟨k + 1, hlt, by go_num, by rw [HS.out], (hbel.alloc hbel.size _).alloc (by simp; have := hbel.size; omega) _⟩
          case measure => simp [intOf]; omega
      · have ek : k = l.length := by omega
        subst ek
        have HE : Hid (l.take l.length = l) := List.take_length
        go_wp2
        go_ret
        rw [HE.out]
        exact ⟨rfl, hbel⟩
end Go.Proofs.YtddbjcfdmdbmkaaGreatDoor

namespace Go.Proofs.YtddbjcfdmdbmkaaGreatDoor
open Go.RowKit

theorem wr64 {n : Int} (h : -9223372036854775808 ≤ n ∧ n ≤ 9223372036854775807) : wrap64 n = n := by unfold wrap64; omega
def mostAcc (rate : Nat) : Nat → Nat × Nat
  | 0 => (0, 1)
  | k + 1 => ((mostAcc rate k).1 + (mostAcc rate k).2 * (rate - k) / (k + 1), (mostAcc rate k).2 * (rate - k) / (k + 1))
def mostP (rate steps : Nat) : Nat := (mostAcc rate (steps - 1)).1
theorem most_ways {rate : Nat} (hr : rate ≤ 12) : ∀ k, (mostAcc rate k).2 ≤ 12 ^ k := by
  intro k
  induction k with
  | zero => exact Nat.le_refl _
  | succ k ih =>
    show (mostAcc rate k).2 * (rate - k) / (k + 1) ≤ _
    refine Nat.le_trans (Nat.div_le_self _ _) ?_
    rw [Nat.pow_succ]
    exact Nat.mul_le_mul ih (by omega)
theorem most_zero {rate : Nat} : ∀ k, rate < k → (mostAcc rate k).2 = 0 := by
  intro k
  induction k with
  | zero => intro h; omega
  | succ k ih =>
    intro h
    show (mostAcc rate k).2 * (rate - k) / (k + 1) = 0
    by_cases e : rate < k
    · rw [ih e, Nat.zero_mul, Nat.zero_div]
    · rw [show rate - k = 0 by omega, Nat.mul_zero, Nat.zero_div]
theorem most_bounds {rate : Nat} (hr : rate ≤ 12) : ∀ k, k ≤ 8 → (mostAcc rate k).2 ≤ 429981696 ∧ (mostAcc rate k).1 ≤ 429981696 * k := by
  intro k
  induction k with
  | zero => intro _; exact ⟨by show 1 ≤ _; omega, by show 0 ≤ _; omega⟩
  | succ k ih =>
    intro hk
    have h := ih (by omega)
    have h2 : (mostAcc rate (k + 1)).2 ≤ 429981696 := Nat.le_trans (most_ways hr (k + 1)) (Nat.le_trans (Nat.pow_le_pow_right (by decide) hk) (by decide))
    exact ⟨h2, by show (mostAcc rate k).1 + (mostAcc rate (k + 1)).2 ≤ _; omega⟩

set_option maxRecDepth 100000 in
set_option maxHeartbeats 800000 in
theorem mostRuns_p {own : Nat → Nat} {w : World} {v : Value} {l : List PPart} (h : PathV own w v l) (hl : l.length ≤ 1000000) (h8 : stepsN l ≤ 8) (h1 : 1 ≤ stepsN l) {rate : Nat} (hr : rate ≤ 12) :
    Calls Tryz.prog 89 #[v, .int .i64 rate] w fun e w' => e = .returned (.int .i64 (mostP rate (stepsN l))) ∧ Below w.heap.size w w' := by
  have hcall := stepsOf_p h hl
  have hv : ∃ a b c, v = .slice a b c := by
    rcases h with ⟨_, p, c, rfl⟩ | ⟨g, off, cap, rfl, _⟩ <;> exact ⟨_, _, _, rfl⟩
  obtain ⟨va, vb, vc, rfl⟩ := hv
  clear h hl
  generalize stepsN l = s at *
  have HM : Hid (mostP rate s = (mostAcc rate (s - 1)).1) := rfl
  go_enter Tryz.func89, Tryz.ntmps89
  go_wp2_with (go_at_call 136; refine hcall.mono ?_; rintro e w1 ⟨rfl, hb1⟩)
  go_loop [5, 6, 11] (fun a b i => ∃ k : Nat, k ≤ s - 1 ∧ i = .int .i64 k ∧ a = .int .i64 (mostAcc rate k).1 ∧ b = .int .i64 (mostAcc rate k).2) (fun _ _ i => s - 1 - (intOf i).toNat)
  case atStart => exact ⟨0, Nat.zero_le _, rfl, rfl, rfl⟩
  case round =>
    obtain ⟨k, hk, rfl, rfl, rfl⟩ := hrel
    obtain ⟨b2, b1⟩ := most_bounds hr k (by omega)
    by_cases hlt : k < s - 1
    · have HA : Hid (mostAcc rate (k + 1) = ((mostAcc rate k).1 + (mostAcc rate k).2 * (rate - k) / (k + 1), (mostAcc rate k).2 * (rate - k) / (k + 1))) := rfl
      obtain ⟨b4, b3⟩ := most_bounds hr (k + 1) (by omega)
      rw [HA.out] at b3 b4
      simp only at b3 b4
      have hki : (k : Int) < (s : Int) - 1 := by omega
      have hz := most_zero (rate := rate) k
      have hmz : ((mostAcc rate k).2 : Int) * ((rate : Int) - (k : Int)) = (((mostAcc rate k).2 * (rate - k) : Nat) : Int) := by
        by_cases e : rate < k
        · rw [hz e]; simp
        · rw [Int.natCast_mul, Int.natCast_sub (by omega)]
      have hm1 : (mostAcc rate k).2 * (rate - k) ≤ 429981696 * 12 := Nat.mul_le_mul b2 (by omega)
      clear hz
      generalize (mostAcc rate k).2 = y2 at *
      generalize (mostAcc rate k).1 = y1 at *
      generalize hzz : y2 * (rate - k) = z at *
      have Hzz : Hid (y2 * (rate - k) = z) := hzz
      clear hzz
      have hq : (z : Int) / ((k : Int) + 1) = ((z / (k + 1) : Nat) : Int) := by simp
      generalize z / (k + 1) = q at *
      go_wp2
      go_round
      case rel => exact ⟨k + 1, by omega, by go_num, by rw [HA.out]; go_num, by rw [HA.out]⟩
      case measure => simp [intOf]; omega
    · have ek : k = s - 1 := by omega
      subst ek
      have hki : ¬ (((s - 1 : Nat)) : Int) < (s : Int) - 1 := by omega
      go_wp2
      go_ret
      rw [HM.out]
      exact ⟨rfl, hb1⟩
end Go.Proofs.YtddbjcfdmdbmkaaGreatDoor

namespace Go.Proofs.YtddbjcfdmdbmkaaGreatDoor
open Go.RowKit

theorem PathAt.take {own : Nat → Nat} {w : World} {g off : Nat} {l : List PPart} (h : PathAt own w g off l) (i : Nat) : PathAt own w g off (l.take i) := by
  refine ⟨h.lt, h.col, fun k hk => ?_⟩
  rw [List.length_take] at hk
  rw [List.getElem_take]
  exact h.part k (by omega)
theorem PathAt.drop {own : Nat → Nat} {w : World} {g off : Nat} {l : List PPart} (h : PathAt own w g off l) (i : Nat) : PathAt own w g (off + i) (l.drop i) := by
  refine ⟨h.lt, h.col, fun k hk => ?_⟩
  rw [List.length_drop] at hk
  rw [List.getElem_drop, Nat.add_assoc]
  exact h.part (i + k) (by omega)
def guardFP (l : List PPart) (i : Nat) : Nat × Nat :=
  if isStepB (l.getD i default) || (decide (0 < stepsN (l.take i)) && decide (0 < stepsN (l.drop (i + 1)))) then (0, 0) else ((l.getD i default).place, 1)

set_option maxRecDepth 100000 in
set_option maxHeartbeats 800000 in
theorem guardFault_p {own : Nat → Nat} {w : World} {g off cap : Nat} {l : List PPart} (hP : PathAt own w g off l) (hcap : l.length ≤ cap) (hl : l.length ≤ 1000000) {i : Nat} (hi : i < l.length) :
    Calls Tryz.prog 87 #[.slice (some ⟨g, off * 6, none⟩) l.length cap, .int .i64 i] w fun e w' => e = .returned (.tuple #[.int .i64 (guardFP l i).1, .int .i64 (guardFP l i).2]) ∧ Below w.heap.size w w' := by
  obtain ⟨cv, hv, ho, hf, d0, d1, d2, d3, d4, d5⟩ := hP.part i hi
  have e6 : (off + i) * 6 = off * 6 + i * 6 := by omega
  rw [e6] at d0 d1 d2 d3 d4 d5
  have hg := hP.lt
  have hcall := fun w => isStep_p l[i] cv hv (row_form ho.1) hf w
  have hget : l.getD i default = l[i] := by simp [List.getD, hi]
  have HG : Hid (guardFP l i = if isStepB l[i] || (decide (0 < stepsN (l.take i)) && decide (0 < stepsN (l.drop (i + 1)))) then (0, 0) else (l[i].place, 1)) := by
    show _ = _; unfold guardFP; rw [hget]
  obtain ⟨cp, cn, cc, rfl⟩ := row_form ho.1
  obtain ⟨a', b', c', rfl⟩ := hf
  have hki : (i : Int) < (l.length : Int) := by omega
  have hk0 : (0 : Int) ≤ (i : Int) := by omega
  have hic : (i : Int) ≤ (cap : Int) := by omega
  have hic1 : (i : Int) + 1 ≤ (l.length : Int) := by omega
  simp only [partVal] at hcall
  cases hb : isStepB l[i] with
  | true =>
    have HE : Hid (guardFP l i = (0, 0)) := by show _ = _; rw [HG.out, hb]; rfl
    rw [hb] at hcall
    clear hb e6 hget HG ho
    go_enter Tryz.func87, Tryz.ntmps87
    go_wp2_with (go_at_call 91; refine (hcall _).mono ?_; rintro e w1 ⟨rfl, o, rfl⟩)
    go_ret2
    rw [HE.out]
    exact ⟨rfl, (Below.refl _ _).alloc (Nat.le_refl _) _⟩
  | false =>
    rw [hb] at hcall
    have hT : ∀ w', Below w.heap.size w w' → PathV own w' (.slice (some ⟨g, off * 6, none⟩) i cap) (l.take i) := fun w' hb' => by
      by_cases e : i = 0
      · subst e; exact .inl ⟨rfl, _, _, rfl⟩
      · exact .inr ⟨g, off, cap, by rw [List.length_take, Nat.min_eq_left (by omega)], by rw [List.length_take]; omega, (hP.take i).ext (Ext.of_below hb')⟩
    have hst := fun w' hb' => stepsOf_p (hT w' hb') (by rw [List.length_take]; omega)
    clear e6 hget ho
    generalize hoff : off * 6 = of6 at *
    by_cases h1 : 0 < stepsN (l.take i)
    · have hD : ∀ w' p c, Below w.heap.size w w' → (i + 1 < l.length → p = some ⟨g, of6 + (i + 1) * 6, none⟩ ∧ l.length - (i + 1) ≤ c) → PathV own w' (.slice p (l.length - (i + 1)) c) (l.drop (i + 1)) := fun w' p c hb' hpc => by
        by_cases e : i + 1 < l.length
        · obtain ⟨rfl, hc⟩ := hpc e
          refine .inr ⟨g, off + (i + 1), c, by rw [List.length_drop, ← hoff, show (off + (i + 1)) * 6 = off * 6 + (i + 1) * 6 by omega], by rw [List.length_drop]; exact hc, (hP.drop (i + 1)).ext (Ext.of_below hb')⟩
        · exact .inl ⟨List.drop_eq_nil_of_le (by omega), p, c, by rw [show l.length - (i + 1) = 0 by omega]⟩
      have h1' : (0 : Int) < (stepsN (l.take i) : Int) := by omega
      have h1d : decide ((0 : Int) < (stepsN (l.take i) : Int)) = true := by simpa using h1'
      have hdl : (l.drop (i + 1)).length ≤ 1000000 := by rw [List.length_drop]; omega
      by_cases hcc : cap = i + 1
      · subst hcc
        have hst2 := fun w' hB => stepsOf_p (hD w' (some ⟨g, of6, none⟩) 0 hB (fun e => absurd e (by omega))) hdl
        rw [show l.length - (i + 1) = 0 by omega] at hst2
        clear hD
        by_cases h2 : 0 < stepsN (l.drop (i + 1))
        · have HE : Hid (guardFP l i = (0, 0)) := by show _ = _; rw [HG.out, hb]; simp [h1, h2]
          have h2' : (0 : Int) < (stepsN (l.drop (i + 1)) : Int) := by omega
          clear hb HG hT
          generalize stepsN (l.take i) = s1 at *
          go_enter Tryz.func87, Tryz.ntmps87
          go_wp2_with (first
            | (go_at_call 91; refine (hcall _).mono ?_; rintro e w1 ⟨rfl, o, rfl⟩; have hb1 : Below w.heap.size w (w.alloc o) := (Below.refl _ _).alloc (Nat.le_refl _) _)
            | (go_at_call 136; have hB2 := hb1.trans (hb2.mono hb1.size); refine (hst2 w2 hB2).mono ?_; rintro e w3 ⟨rfl, hb3⟩)
            | (go_at_call 136; refine (hst _ hb1).mono ?_; rintro e w2 ⟨rfl, hb2⟩; clear hst))
          all_goals
            go_ret2
            rw [HE.out]
            exact ⟨rfl, hB2.trans (hb3.mono hB2.size)⟩
        · have HE : Hid (guardFP l i = (l[i].place, 1)) := by show _ = _; rw [HG.out, hb]; simp [h2]
          have h2' : ¬ (0 : Int) < (stepsN (l.drop (i + 1)) : Int) := by omega
          clear hb HG hT
          generalize stepsN (l.take i) = s1 at *
          go_enter Tryz.func87, Tryz.ntmps87
          go_wp2_with (first
            | (go_at_call 91; refine (hcall _).mono ?_; rintro e w1 ⟨rfl, o, rfl⟩; have hb1 : Below w.heap.size w (w.alloc o) := (Below.refl _ _).alloc (Nat.le_refl _) _)
            | (go_at_call 136; have hB2 := hb1.trans (hb2.mono hb1.size); refine (hst2 w2 hB2).mono ?_; rintro e w3 ⟨rfl, hb3⟩; have hB3 := hB2.trans (hb3.mono hB2.size); have q1 := (hB3.cell (p := ⟨g, of6 + i * 6 + 1, none⟩) hg).trans d1)
            | (go_at_call 136; refine (hst _ hb1).mono ?_; rintro e w2 ⟨rfl, hb2⟩; clear hst))
          all_goals
            go_ret2
            rw [HE.out]
            exact ⟨rfl, hB3⟩
      · have hst2 := fun w' hB => stepsOf_p (hD w' (some ⟨g, of6 + (i + 1) * 6, none⟩) (cap - (i + 1)) hB (fun _ => ⟨rfl, by omega⟩)) hdl
        clear hD
        by_cases h2 : 0 < stepsN (l.drop (i + 1))
        · have HE : Hid (guardFP l i = (0, 0)) := by show _ = _; rw [HG.out, hb]; simp [h1, h2]
          have h2' : (0 : Int) < (stepsN (l.drop (i + 1)) : Int) := by omega
          clear hb HG hT
          generalize stepsN (l.take i) = s1 at *
          go_enter Tryz.func87, Tryz.ntmps87
          go_wp2_with (first
            | (go_at_call 91; refine (hcall _).mono ?_; rintro e w1 ⟨rfl, o, rfl⟩; have hb1 : Below w.heap.size w (w.alloc o) := (Below.refl _ _).alloc (Nat.le_refl _) _)
            | (go_at_call 136; have hB2 := hb1.trans (hb2.mono hb1.size); refine (hst2 w2 hB2).mono ?_; rintro e w3 ⟨rfl, hb3⟩)
            | (go_at_call 136; refine (hst _ hb1).mono ?_; rintro e w2 ⟨rfl, hb2⟩; clear hst))
          all_goals
            go_ret2
            rw [HE.out]
            exact ⟨rfl, hB2.trans (hb3.mono hB2.size)⟩
        · have HE : Hid (guardFP l i = (l[i].place, 1)) := by show _ = _; rw [HG.out, hb]; simp [h2]
          have h2' : ¬ (0 : Int) < (stepsN (l.drop (i + 1)) : Int) := by omega
          clear hb HG hT
          generalize stepsN (l.take i) = s1 at *
          go_enter Tryz.func87, Tryz.ntmps87
          go_wp2_with (first
            | (go_at_call 91; refine (hcall _).mono ?_; rintro e w1 ⟨rfl, o, rfl⟩; have hb1 : Below w.heap.size w (w.alloc o) := (Below.refl _ _).alloc (Nat.le_refl _) _)
            | (go_at_call 136; have hB2 := hb1.trans (hb2.mono hb1.size); refine (hst2 w2 hB2).mono ?_; rintro e w3 ⟨rfl, hb3⟩; have hB3 := hB2.trans (hb3.mono hB2.size); have q1 := (hB3.cell (p := ⟨g, of6 + i * 6 + 1, none⟩) hg).trans d1)
            | (go_at_call 136; refine (hst _ hb1).mono ?_; rintro e w2 ⟨rfl, hb2⟩; clear hst))
          all_goals
            go_ret2
            rw [HE.out]
            exact ⟨rfl, hB3⟩
    · have HE : Hid (guardFP l i = (l[i].place, 1)) := by show _ = _; rw [HG.out, hb]; simp [h1]
      have h1' : ¬ (0 : Int) < (stepsN (l.take i) : Int) := by omega
      have h1d : decide ((0 : Int) < (stepsN (l.take i) : Int)) = false := by simpa using h1'
      clear hb HG hT
      generalize stepsN (l.take i) = s1 at *
      go_enter Tryz.func87, Tryz.ntmps87
      go_wp2_with (first
        | (go_at_call 91; refine (hcall _).mono ?_; rintro e w1 ⟨rfl, o, rfl⟩; have hb1 : Below w.heap.size w (w.alloc o) := (Below.refl _ _).alloc (Nat.le_refl _) _)
        | (go_at_call 136; refine (hst _ hb1).mono ?_; rintro e w2 ⟨rfl, hb2⟩; have hB2 := hb1.trans (hb2.mono hb1.size); have q1 := (hB2.cell (p := ⟨g, of6 + i * 6 + 1, none⟩) hg).trans d1; clear hst))
      go_ret2
      rw [HE.out]
      exact ⟨rfl, hB2⟩
end Go.Proofs.YtddbjcfdmdbmkaaGreatDoor
