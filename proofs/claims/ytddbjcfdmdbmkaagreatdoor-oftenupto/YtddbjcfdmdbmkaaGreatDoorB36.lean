import Derived.Test.YtddbjcfdmdbmkaaGreatDoorB35
set_option linter.unusedVariables false
set_option linter.unusedSimpArgs false
namespace Go.Proofs.YtddbjcfdmdbmkaaGreatDoor
open Go.RowKit

def withR (r : MRun) (g cap ip n : Nat) : MRun := ⟨r.sv, some ⟨g, 0, none⟩, cap, r.ps ++ [ip], withP n r.pl⟩
structure TryPost (B : Nat) (W : World) (N2 : Nat) (av : Value) (gs : List MRun) (r : MRun) (ip n : Nat) (took : Bool) (w' : World) : Prop where
  no : took = false → Below W.heap.size W w'
  yes : took = true → ∃ a b c g cap, Blk w' N2 #[.slice a b c] 107 ∧ w'.ownsRow B 163 2 (.slice a b c) (gs ++ [withR r g cap ip n]).length (flat MRun.cells (gs ++ [withR r g cap ip n])) ∧ w'.ownsRow W.heap.size 156 1 (.slice (some ⟨g, 0, none⟩) (r.ps.length + 1) cap) (r.ps.length + 1) ((r.ps ++ [ip]).map ptrV) ∧ Chg (fun b => b = N2 ∨ av.ownBlock = some b) W w' ∧ ∀ z, (Value.slice a b c).ownBlock = some z → av.ownBlock = some z ∨ W.heap.size ≤ z
set_option maxRecDepth 100000 in
set_option maxHeartbeats 3200000 in
theorem try_p {F : Nat → Prop} {W : World} {paths : List (List WStep)} {svs : List Value} {evs : List Ev} {sps : List Nat} {r : MRun} (h : RunV F W paths svs evs sps r) (hS : SeenL F W evs sps) (hW : WellP paths) (hl : r.pl.2.length < (paths.getD r.pl.1 []).length) (h8 : (paths.getD r.pl.1 []).length ≤ 10000) (hsv : ∃ a b c, r.sv = .slice a b c) {ip n N1 N2 B : Nat} {e : Ev} {av : Value} {gs : List MRun} (hip : SeenAt W ip e n) (hN1 : Blk W N1 #[.pointer (some ⟨ip, 0, none⟩)] 156) (hN2 : Blk W N2 #[av] 107) (hrow : W.ownsRow B 163 2 av gs.length (flat MRun.cells gs)) (hgl : gs.length ≤ 1000000) (hB : B ≤ W.heap.size) :
    Calls Tryz.prog 108 #[r.val, .pointer (some ⟨N1, 0, none⟩), .pointer (some ⟨N2, 0, none⟩)] W fun x w' => x = .returned (.tuple #[]) ∧ TryPost B W N2 av gs r ip n (takesB (absP paths) evs e r.pl) w' := by
  obtain ⟨i0, hi0, hz0, hz1, hz2⟩ := info_parts Tryz.infoRun
  obtain ⟨sa, sb, sc, esv⟩ := hsv
  have hb0 : Below W.heap.size W (W.alloc (.cells #[.slice sa sb sc, .slice r.ta r.ps.length r.tc] 163)) := (Below.refl _ W).alloc (Nat.le_refl _) _
  have hk0 : KeepS F W F (W.alloc (.cells #[.slice sa sb sc, .slice r.ta r.ps.length r.tc] 163)) := fun b hb hl => ⟨hb, hb0.block b hl⟩
  have hcall := run_takes (h.to hk0 hb0.size) (hS.to hk0 hb0.size) hW hl (by omega) (Blk.of_eq hip (hb0.block ip hip.lt))
  have hRN := Blk.new W #[.slice sa sb sc, .slice r.ta r.ps.length r.tc] 163
  have hN1a := hN1.alloc (.cells #[.slice sa sb sc, .slice r.ta r.ps.length r.tc] 163)
  have hN2a := hN2.alloc (.cells #[.slice sa sb sc, .slice r.ta r.ps.length r.tc] 163)
  have n1 := hN1a.cell 0; have hNl1 := hN1a.lt
  simp at n1
  unfold MRun.val at hcall ⊢
  rw [esv] at hcall ⊢
  cases ht : takesB (absP paths) evs e r.pl with
  | false =>
    rw [ht] at hcall
    have hpost : ∀ w', Below (W.alloc (.cells #[.slice sa sb sc, .slice r.ta r.ps.length r.tc] 163)).heap.size (W.alloc (.cells #[.slice sa sb sc, .slice r.ta r.ps.length r.tc] 163)) w' → TryPost B W N2 av gs r ip n false w' := fun w' hw => ⟨fun _ => hb0.trans (hw.mono hb0.size), fun h => by cases h⟩
    have HP : Hid _ := hpost
    clear hpost h hS hW hip hk0 ht hRN hN2a hN2 hrow
    generalize r.ta = ta at *
    generalize r.ps.length = tb at *
    generalize r.tc = tc at *
    go_enter Tryz.func108, Tryz.ntmps108
    go_wp2_with (go_at_call 109; refine hcall.mono ?_; rintro e w1 ⟨rfl, hb1⟩)
    go_end0
    exact ⟨rfl, HP.out _ hb1⟩
  | true =>
    rw [ht] at hcall
    obtain ⟨aa, ab, ac, eav⟩ := row_form hrow
    have hlen := h.len
    have hN2ap : ∀ z, av.ownBlock = some z → z ≠ N2 := fun z hz e => blk_apart hN2 hrow (by decide) (e ▸ hz)
    have HP : ∀ w1 : World, Below (W.alloc (.cells #[.slice sa sb sc, .slice r.ta r.ps.length r.tc] 163)).heap.size (W.alloc (.cells #[.slice sa sb sc, .slice r.ta r.ps.length r.tc] 163)) w1 →
        Below W.heap.size W w1 ∧ Blk w1 N1 #[.pointer (some ⟨ip, 0, none⟩)] 156 ∧ Blk w1 N2 #[av] 107 ∧ Blk w1 W.heap.size #[.slice sa sb sc, .slice r.ta r.ps.length r.tc] 163 ∧ w1.ownsRow B 163 2 av gs.length (flat MRun.cells gs) ∧ TakenAt w1 r.ta r.tc r.ps := fun w1 hb1 => by
      have hb := hb0.trans (hb1.mono hb0.size)
      exact ⟨hb, hN1a.of_eq (hb1.block _ hN1a.lt), hN2a.of_eq (hb1.block _ hN2a.lt), hRN.of_eq (hb1.block _ hRN.lt), row_of_blk hrow (fun z hz => hb.block z (hrow.lt z hz).2), h.taken.to h.tF (F' := F) (fun b hF hl => ⟨hF, hb.block b hl⟩) hb.size⟩
    have hpost : ∀ (w1 w5 w7 : World) (g5 cap5 g7 cap7 : Nat) (o : Obj), Below W.heap.size W w1 → Below w1.heap.size w1 w5 → w5.ownsRow w1.heap.size 156 1 (.slice (some ⟨g5, 0, none⟩) (r.ps.length + 1) cap5) (r.ps.length + 1) ((r.ps ++ [ip]).map ptrV) → w7.ownsRow B 163 2 (.slice (some ⟨g7, 0, none⟩) (gs.length + 1) cap7) (gs.length + 1) (flat MRun.cells gs ++ [.slice sa sb sc, .slice (some ⟨g5, 0, none⟩) (r.ps.length + 1) cap5]) → (w5.alloc o).grownBy w7 av.ownBlock → (av.ownBlock = some g7 ∨ w5.heap.size ≤ g7) → Blk w7 N2 #[av] 107 →
        TryPost B W N2 av gs r ip n true (w7.setCell ⟨N2, 0, none⟩ (.slice (some ⟨g7, 0, none⟩) (gs.length + 1) cap7)) := by
      intro w1 w5 w7 g5 cap5 g7 cap7 o k1 k2 k3 k4 k5 k6 k7
      have hWs := k1.size
      have hWs2 := k2.size
      have hg5 := (k3.lt g5 rfl)
      have hg57 : g5 ≠ N2 := by have := hN2.lt; omega
      have hc : Chg (fun b => b = N2 ∨ av.ownBlock = some b) W (w7.setCell ⟨N2, 0, none⟩ (.slice (some ⟨g7, 0, none⟩) (gs.length + 1) cap7)) :=
        (((Chg.below (fun b => b = N2 ∨ av.ownBlock = some b) (k1.trans (k2.mono hWs))).alloc o).trans (Chg.grown k5) (fun b _ hb => .inr hb)).setCell (p := ⟨N2, 0, none⟩) (.inl (.inl rfl)) _
      refine ⟨(fun h => by cases h), fun _ => ⟨_, _, _, g5, cap5, by simpa using k7.set 0 (.slice (some ⟨g7, 0, none⟩) (gs.length + 1) cap7), ?_, ?_, hc, fun z hz => ?_⟩⟩
      · rw [List.length_append, flat_snoc]
        have e1 : MRun.cells (withR r g5 cap5 ip n) = [.slice sa sb sc, .slice (some ⟨g5, 0, none⟩) (r.ps.length + 1) cap5] := by unfold MRun.cells withR; rw [esv]; simp
        rw [e1]
        exact row_of_blk k4 fun z hz => Below.heap_setCell _ _ _ _ (fun e => by simp at e; subst e; exact blk_apart k7 k4 (by decide) hz)
      · have k3' : (w7.setCell ⟨N2, 0, none⟩ (.slice (some ⟨g7, 0, none⟩) (gs.length + 1) cap7)).ownsRow w1.heap.size 156 1 (.slice (some ⟨g5, 0, none⟩) (r.ps.length + 1) cap5) (r.ps.length + 1) ((r.ps ++ [ip]).map ptrV) := by
          refine row_of_blk k3 fun z hz => ?_
          have hz5 : g5 = z := by simpa [Value.ownBlock] using hz
          subst hz5
          rw [Below.heap_setCell _ _ _ _ (fun e => hg57 (by simpa using e)), k5.block g5 (by simp; omega) (fun e => ?_), Below.heap_alloc _ _ _ hg5.2]
          have := (hrow.lt g5 e.symm).2
          omega
        exact row_base_le k3' hWs
      · have hz7 : g7 = z := by simpa [Value.ownBlock] using hz
        subst hz7
        rcases k6 with k6 | k6
        · exact .inl k6
        · exact .inr (by omega)
    subst eav
    have HPh : Hid _ := hpost
    have htk : ∀ w1, TakenAt w1 r.ta r.tc r.ps → ∀ V, Below w1.heap.size w1 V → Calls Tryz.prog 110 #[.agg #[.slice sa sb sc, .slice r.ta r.ps.length r.tc], .pointer (some ⟨ip, 0, none⟩)] V fun e w' => ∃ g' cap', e = .returned (.agg #[.slice sa sb sc, .slice (some ⟨g', 0, none⟩) (r.ps.length + 1) cap']) ∧ Below w1.heap.size w1 w' ∧ w'.ownsRow w1.heap.size 156 1 (.slice (some ⟨g', 0, none⟩) (r.ps.length + 1) cap') (r.ps.length + 1) ((r.ps ++ [ip]).map ptrV) := fun w1 hT V hV => by
      refine (with_p (w := V) (hT.to (F := fun b => b < w1.heap.size) (F' := fun _ => True) hT.blk (fun b hb _ => ⟨trivial, hV.block b hb⟩) hV.size) (by omega)).mono ?_
      rintro e w' ⟨g', cap', q1, q2, q3⟩
      exact ⟨g', cap', q1, hV.trans (q2.mono hV.size), row_base_le q3 hV.size⟩
    clear hpost h hS hW hip hk0 ht hRN hN2a hN2 hrow hN1 hlen
    generalize r.ta = ta at *
    generalize hpl : r.ps.length = tb at *
    generalize r.tc = tc at *
    go_enter Tryz.func108, Tryz.ntmps108
    go_upto_region 2 with (go_at_call 109; refine hcall.mono ?_; rintro e w1 ⟨rfl, hb1⟩)
    obtain ⟨p1, p2, p3, p4, p5, p6⟩ := HP w1 hb1
    have hWith := htk w1 p6
    have m1 := p2.cell 0; have m2 := p3.cell 0; have m2f := p3.frozen 0; have m3 := p4.cell 0; have m4 := p4.cell 1
    have ml1 := p2.lt; have ml2 := p3.lt; have ml3 := p4.lt
    simp at m1 m2 m3 m4
    have hBw : B ≤ w1.heap.size := Nat.le_trans hB p1.size
    clear HP htk p2 p4 p6 hcall hb1 hb0 hN1a n1 hNl1
    go_region_law (first
      | (refine step_append_lies _ (by rfl) _ _ 107 (by rfl) B 163 i0 _ 2 48 Tryz.underlying107 hi0 hz0 hz1 hz2 rfl (by decide) _ gs.length (flat MRun.cells gs) (by rfl) (hrow5.alloc _) ⟨w5.heap.size, 0, none⟩ 1 1 [.slice sa sb sc, .slice (some ⟨g5, 0, none⟩) (tb + 1) cap5] (by rfl) rfl (World.news_of_block (alloc_at _ _ _ (by simp))) (by simp [Value.oneCell']) (by decide) (by unfold maxLen; omega) (by omega) (by simp <;> omega) (w5.heap.size + 1) (by simp) ?_; intro g7 cap7 w7 hown7 hgrow7 hat7 hlt7; have hN7 := (hN5.alloc (.cells #[.slice sa sb sc, .slice (some ⟨g5, 0, none⟩) (tb + 1) cap5] 163)).of_eq (hgrow7.block N2 (by simp; omega) (fun e => hN2ap N2 e.symm rfl)); have u0 := hN7.cell 0; have uf := hN7.frozen 0; have hNl7 := hN7.lt; simp at u0)
      | (go_simp; refine (hWith _ (by first | exact Below.refl _ _ | exact ⟨rfl, rfl, rfl, Nat.le_refl _, fun _ _ => rfl⟩)).mono ?_; rintro e w5 ⟨g5, cap5, rfl, hb5, hrow5t⟩; have hN5 := p3.of_eq (hb5.block N2 ml2); have y0 := hN5.cell 0; have yf := hN5.frozen 0; have hNl5 := hN5.lt; simp at y0; have hrow5 := row_of_blk p5 (w' := w5) (fun z hz => hb5.block z (p5.lt z hz).2); have hws5 := hb5.size; show _; dsimp only))
    all_goals
      have hend := HPh.out w1 w5 w7 g5 cap5 g7 cap7 (.cells #[.slice sa sb sc, .slice (some ⟨g5, 0, none⟩) (tb + 1) cap5] 163) p1 hb5 hrow5t hown7 ⟨hgrow7.os, hgrow7.tape, hgrow7.output, hgrow7.size, hgrow7.block⟩ (by rcases hat7 with e | e; exact .inl e; exact .inr (by omega)) hN7
      clear hown7 hgrow7
      go_wp2
      go_end0
      exact ⟨rfl, hend⟩
end Go.Proofs.YtddbjcfdmdbmkaaGreatDoor

namespace Go.Proofs.YtddbjcfdmdbmkaaGreatDoor
open Go.RowKit

theorem getD_snoc_lt {l : List Nat} {x i : Nat} (h : i < l.length) : (l ++ [x]).getD i 0 = l.getD i 0 := by simp [List.getD_eq_getElem?_getD, List.getElem?_append_left h]
theorem getD_snoc_at (l : List Nat) (x : Nat) : (l ++ [x]).getD l.length 0 = x := by simp [List.getD_eq_getElem?_getD]
theorem RunV.snoc {F : Nat → Prop} {w : World} {paths : List (List WStep)} {svs : List Value} {evs : List Ev} {sps : List Nat} {r : MRun} (h : RunV F w paths svs evs sps r) (hl : sps.length = evs.length) (e : Ev) (ip : Nat) : RunV F w paths svs (evs ++ [e]) (sps ++ [ip]) r :=
  ⟨h.path, h.sv, h.steps, by rw [h.ps]; exact List.map_congr_left fun i hi => (getD_snoc_lt (by rw [hl]; exact h.lt i hi)).symm, fun i hi => by have := h.lt i hi; simp; omega, h.taken, h.tF⟩
theorem SeenL.snoc {F : Nat → Prop} {w : World} {evs : List Ev} {sps : List Nat} (h : SeenL F w evs sps) {e : Ev} {ip : Nat} (hs : SeenAt w ip e evs.length) (hF : F ip) : SeenL F w (evs ++ [e]) (sps ++ [ip]) := by
  refine ⟨by simp [h.len], fun i h1 h2 => ?_⟩
  have hl := h.len
  by_cases hi : i < evs.length
  · rw [List.getElem_append_left (by omega), List.getElem_append_left hi]; exact h.ev i hi (by omega)
  · have e1 : i = evs.length := by simp at h1; omega
    subst e1
    rw [List.getElem_append_right (by omega), List.getElem_append_right (by omega)]
    simp only [hl, Nat.sub_self, List.getElem_cons_zero]
    exact ⟨hs, hF, hs.lt⟩
structure GrownAt (F : Nat → Prop) (w : World) (paths : List (List WStep)) (svs : List Value) (evs : List Ev) (sps : List Nat) (e : Ev) (ip N1 N2 : Nat) (done : List (Nat × List Nat)) (wr : World) (F' : Nat → Prop) (av : Value) (gs : List MRun) : Prop where
  bel : Below w.heap.size w wr
  n1 : Blk wr N1 #[.pointer (some ⟨ip, 0, none⟩)] 156
  n2 : Blk wr N2 #[av] 107
  row : wr.ownsRow w.heap.size 163 2 av gs.length (flat MRun.cells gs)
  pl : gs.map MRun.pl = (done.filter (takesB (absP paths) evs e)).map (withP evs.length)
  runs : ∀ r ∈ gs, RunV F' wr paths svs (evs ++ [e]) (sps ++ [ip]) r
  up : ∀ b, F b → F' b
  new : ∀ b, F' b → F b ∨ w.heap.size ≤ b
  lt : ∀ b, F' b → b < wr.heap.size
  f2 : ¬ F' N2
  fa : ∀ g, av.ownBlock = some g → ¬ F' g
theorem GrownAt.keep {F : Nat → Prop} {w : World} {paths : List (List WStep)} {svs : List Value} {evs : List Ev} {sps : List Nat} {e : Ev} {ip N1 N2 : Nat} {done : List (Nat × List Nat)} {wr : World} {F' : Nat → Prop} {av : Value} {gs : List MRun} (h : GrownAt F w paths svs evs sps e ip N1 N2 done wr F' av gs) {w' : World} (hb : Below wr.heap.size wr w') : GrownAt F w paths svs evs sps e ip N1 N2 done w' F' av gs :=
  ⟨h.bel.trans (hb.mono h.bel.size), h.n1.of_eq (hb.block _ h.n1.lt), h.n2.of_eq (hb.block _ h.n2.lt), row_of_blk h.row (fun z hz => hb.block z (h.row.lt z hz).2), h.pl, fun r hr => (h.runs r hr).to (fun b hF hl => ⟨hF, hb.block b hl⟩) hb.size, h.up, h.new, fun b hF => Nat.lt_of_lt_of_le (h.lt b hF) hb.size, h.f2, h.fa⟩
theorem GrownAt.count {F : Nat → Prop} {w : World} {paths : List (List WStep)} {svs : List Value} {evs : List Ev} {sps : List Nat} {e : Ev} {ip N1 N2 : Nat} {done : List (Nat × List Nat)} {wr : World} {F' : Nat → Prop} {av : Value} {gs : List MRun} (h : GrownAt F w paths svs evs sps e ip N1 N2 done wr F' av gs) : gs.length ≤ done.length := by
  have := congrArg List.length h.pl
  rw [List.length_map, List.length_map] at this
  rw [this]; exact List.length_filter_le _ _
theorem GrownAt.step {F : Nat → Prop} {w : World} {paths : List (List WStep)} {svs : List Value} {evs : List Ev} {sps : List Nat} {e : Ev} {ip N1 N2 : Nat} {done : List (Nat × List Nat)} {wr w' : World} {F' : Nat → Prop} {av : Value} {gs : List MRun} {r : MRun} (h : GrownAt F w paths svs evs sps e ip N1 N2 done wr F' av gs) (hr : RunV F' wr paths svs evs sps r) (hS : SeenL F' wr evs sps) (hN12 : N1 < w.heap.size + 2) (hp : TryPost w.heap.size wr N2 av gs r ip evs.length (takesB (absP paths) evs e r.pl) w') (hN : N1 ≠ N2) (hNw : w.heap.size ≤ N2) :
    ∃ F2 a b c gs2, GrownAt F w paths svs evs sps e ip N1 N2 (done ++ [r.pl]) w' F2 (.slice a b c) gs2 ∧ (∀ b, F' b → F2 b) := by
  have hls := hS.len
  cases ht : takesB (absP paths) evs e r.pl with
  | false =>
    rw [ht] at hp
    have hb := hp.no rfl
    have hk := h.keep hb
    obtain ⟨a, b, c, eav⟩ := row_form h.row
    subst eav
    refine ⟨F', a, b, c, gs, ⟨hk.bel, hk.n1, hk.n2, hk.row, ?_, hk.runs, hk.up, hk.new, hk.lt, hk.f2, hk.fa⟩, fun b hb => hb⟩
    rw [h.pl, List.filter_append]
    simp [ht]
  | true =>
    rw [ht] at hp
    obtain ⟨a, b, c, g, cap, q1, q2, q3, q4, q5⟩ := hp.yes rfl
    have hg := q3.lt g rfl
    have hne : ∀ z, F' z → ¬ (z = N2 ∨ av.ownBlock = some z) := fun z hz hm => by
      rcases hm with rfl | hm
      · exact h.f2 hz
      · exact h.fa z hm hz
    have hk : KeepS F' wr (fun z => F' z ∨ z = g) w' := fun z hz hl => ⟨.inl hz, q4.at z hl (hne z hz)⟩
    have hgN : g ≠ N2 := by have := h.n2.lt; omega
    have hav : ∀ z, av.ownBlock = some z → w.heap.size ≤ z := fun z hz => (h.row.lt z hz).1
    refine ⟨fun z => F' z ∨ z = g, a, b, c, gs ++ [withR r g cap ip evs.length], ⟨?_, ?_, q1, q2, ?_, ?_, fun z hz => .inl (h.up z hz), ?_, ?_, ?_, ?_⟩, fun z hz => .inl hz⟩
    · refine ⟨(Kept.os q4).trans h.bel.os, (Kept.tape q4).trans h.bel.tape, (Kept.output q4).trans h.bel.output, Nat.le_trans h.bel.size q4.size, fun k hk => ?_⟩
      rw [q4.at k (Nat.lt_of_lt_of_le hk h.bel.size) (fun hm => by rcases hm with rfl | hm; omega; have := hav k hm; omega)]
      exact h.bel.block k hk
    · refine h.n1.of_eq (q4.at N1 h.n1.lt (fun hm => ?_))
      rcases hm with hm | hm
      · exact hN hm
      · exact blk_apart h.n1 h.row (by decide) hm
    · rw [List.map_append, h.pl, List.filter_append, List.map_append]
      congr 1
      simp [ht, withR]
    · intro x hx
      rcases List.mem_append.1 hx with hx | hx
      · exact (h.runs x hx).to hk q4.size
      · rw [List.mem_singleton.1 hx]
        have hr2 := hr.to hk q4.size
        refine ⟨hr2.path, hr2.sv, hr2.steps, ?_, fun i hi => ?_, ?_, fun t et => ?_⟩
        · show r.ps ++ [ip] = (r.pl.2 ++ [evs.length]).map ((sps ++ [ip]).getD · 0)
          rw [List.map_append, hr.ps]
          congr 1
          · exact List.map_congr_left fun i hi => (getD_snoc_lt (by rw [hls]; exact hr.lt i hi)).symm
          · show [ip] = [(sps ++ [ip]).getD evs.length 0]
            rw [← hls, getD_snoc_at]
        · have hi' : i ∈ r.pl.2 ++ [evs.length] := hi
          rw [List.length_append]
          rcases List.mem_append.1 hi' with hi' | hi'
          · have := hr.lt i hi'; simp; omega
          · rw [List.mem_singleton.1 hi']; simp
        · show TakenAt w' (some ⟨g, 0, none⟩) cap (r.ps ++ [ip])
          have hcap : r.ps.length + 1 ≤ cap := by
            rcases q3.2 with ⟨e, _⟩ | ⟨g', cap', cur, he, _, hgg, hn, _⟩
            · cases e
            · cases he; exact hn
          refine .inr ⟨by simpa using hcap, g, rfl, hg.2, fun i hi => ?_⟩
          have := q3.cells (g := g) rfl i (ptrV (r.ps ++ [ip])[i]) (by rw [List.getElem?_map, List.getElem?_eq_getElem hi]; rfl)
          rw [addr_add, Nat.zero_add] at this; exact this
        · have et' : some (⟨g, 0, none⟩ : Addr) = some t := et
          cases et'; exact .inr rfl
    · intro z hz
      rcases hz with hz | rfl
      · exact h.new z hz
      · exact .inr (Nat.le_trans h.bel.size hg.1)
    · intro z hz
      rcases hz with hz | rfl
      · exact Nat.lt_of_lt_of_le (h.lt z hz) q4.size
      · exact hg.2
    · rintro (hz | hz)
      · exact h.f2 hz
      · exact hgN hz.symm
    · intro z hz hm
      rcases hm with hm | rfl
      · rcases q5 z hz with q | q
        · exact h.fa z q hm
        · exact absurd (h.lt z hm) (by omega)
      · exact rows_apart q2 q3 (by decide) z hz rfl
end Go.Proofs.YtddbjcfdmdbmkaaGreatDoor

namespace Go.Proofs.YtddbjcfdmdbmkaaGreatDoor
open Go.RowKit

structure PathsV (F : Nat → Prop) (w : World) (pv : Value) (paths : List (List WStep)) (svs : List Value) : Prop where
  len : svs.length = paths.length
  row : w.ownsRow 0 112 1 pv paths.length svs
  blk : ∀ g, pv.ownBlock = some g → F g
  steps : ∀ i, (h : i < svs.length) → (h' : i < paths.length) → StepsS F w svs[i] paths[i]
theorem PathsV.to {F F' : Nat → Prop} {w w' : World} {pv : Value} {paths : List (List WStep)} {svs : List Value} (h : PathsV F w pv paths svs) (hk : KeepS F w F' w') : PathsV F' w' pv paths svs :=
  ⟨h.len, row_of_blk h.row fun g hg => (hk g (h.blk g hg) (h.row.lt g hg).2).2, fun g hg => (hk g (h.blk g hg) (h.row.lt g hg).2).1, fun i a b => (h.steps i a b).to hk⟩
theorem PathsV.at {F : Nat → Prop} {w : World} {pv : Value} {paths : List (List WStep)} {svs : List Value} (h : PathsV F w pv paths svs) : ∃ a c, pv = .slice a paths.length c ∧ (0 < paths.length → ∃ g, a = some ⟨g, 0, none⟩ ∧ g < w.heap.size ∧ ∀ k, (hk : k < svs.length) → w.cell? ⟨g, k, none⟩ = some svs[k]) := by
  have hrow := h.row
  rcases h.row.2 with ⟨rfl, h0⟩ | ⟨g, cap, cur, rfl, _, hg, _⟩
  · exact ⟨none, 0, by rw [h0], fun h => by omega⟩
  · refine ⟨_, _, rfl, fun _ => ⟨g, rfl, (Array.getElem?_eq_some_iff.1 hg).1, fun k hk => ?_⟩⟩
    have := hrow.cells (g := g) rfl k svs[k] (List.getElem?_eq_getElem hk)
    rw [addr_add, Nat.zero_add] at this; exact this
theorem StepsS.form {S : Nat → Prop} {w : World} {v : Value} {ss : List WStep} (h : StepsS S w v ss) : ∃ a b c, v = .slice a b c := by obtain ⟨⟨cgs, _, h, _⟩, _⟩ := h; exact row_form h
theorem GrownAt.keepS {F : Nat → Prop} {w : World} {paths : List (List WStep)} {svs : List Value} {evs : List Ev} {sps : List Nat} {e : Ev} {ip N1 N2 : Nat} {done : List (Nat × List Nat)} {wr : World} {F' : Nat → Prop} {av : Value} {gs : List MRun} (h : GrownAt F w paths svs evs sps e ip N1 N2 done wr F' av gs) : KeepS F w F' wr := fun b hb hl => ⟨h.up b hb, h.bel.block b hl⟩
def seedR (svs : List Value) (k : Nat) : MRun := ⟨svs.getD k default, none, 0, [], (k, [])⟩
theorem seed_runV {F : Nat → Prop} {w : World} {pv : Value} {paths : List (List WStep)} {svs : List Value} {evs : List Ev} {sps : List Nat} (h : PathsV F w pv paths svs) (k : Nat) (hk : k < paths.length) : RunV F w paths svs evs sps (seedR svs k) := by
  have hk' : k < svs.length := by rw [h.len]; exact hk
  refine ⟨hk, rfl, ?_, rfl, fun i hi => ?_, .inl ⟨rfl, rfl, rfl⟩, fun t e => ?_⟩
  · show StepsS F w (svs.getD k default) (paths.getD k [])
    have := h.steps k hk' hk
    simpa [List.getD, hk, hk'] using this
  · have : i ∈ ([] : List Nat) := hi
    simp at this
  · have : (none : Option Addr) = some t := e
    cases this
theorem seeds_take (paths : List (List WStep)) (k : Nat) (h : k < paths.length) : (seedsP (absP paths)).take (k + 1) = (seedsP (absP paths)).take k ++ [(k, [])] := by
  have hl : k < (seedsP (absP paths)).length := by simp [seedsP, absP, h]
  rw [List.take_succ_eq_append_getElem hl]
  simp [seedsP]
set_option maxRecDepth 100000 in
set_option maxHeartbeats 3200000 in
theorem grown_p {F : Nat → Prop} {w : World} {X : Nat} {x0 x1 pv x3 x4 rv : Value} {paths : List (List WStep)} {svs : List Value} {evs : List Ev} {sps : List Nat} {rs : List MRun} {ip : Nat} {e : Ev} (hX : Blk w X #[x0, x1, pv, x3, x4, rv] 110) (hP : PathsV F w pv paths svs) (hrow : w.ownsRow 0 163 2 rv rs.length (flat MRun.cells rs)) (hR : ∀ r ∈ rs, RunV F w paths svs evs sps r ∧ r.pl.2.length < (paths.getD r.pl.1 []).length ∧ ∃ a b c, r.sv = .slice a b c) (hS : SeenL F w evs sps) (hW : WellP paths) (hpl : ∀ p ∈ paths, 0 < p.length ∧ p.length ≤ 10000) (hpn : paths.length ≤ 1000) (hrn : rs.length ≤ 500000) (hF : ∀ b, F b → b < w.heap.size) (hip : SeenAt w ip e evs.length) :
    Calls Tryz.prog 73 #[.pointer (some ⟨X, 0, none⟩), .pointer (some ⟨ip, 0, none⟩)] w fun x w' => ∃ F' a b c gs, x = .returned (.slice a b c) ∧ GrownAt F w paths svs evs sps e ip w.heap.size (w.heap.size + 1) (seedsP (absP paths) ++ rs.map MRun.pl) w' F' (.slice a b c) gs := by
  have hN1 := Blk.new w #[.pointer (some ⟨ip, 0, none⟩)] 156
  have hN2 := Blk.new (w.alloc (.cells #[.pointer (some ⟨ip, 0, none⟩)] 156)) #[.slice none 0 0] 107
  rw [alloc_size] at hN2
  have hb0 : Below w.heap.size w ((w.alloc (.cells #[.pointer (some ⟨ip, 0, none⟩)] 156)).alloc (.cells #[.slice none 0 0] 107)) := ((Below.refl _ w).alloc (Nat.le_refl _) _).alloc (by simp) _
  have hG0 : GrownAt F w paths svs evs sps e ip w.heap.size (w.heap.size + 1) [] ((w.alloc (.cells #[.pointer (some ⟨ip, 0, none⟩)] 156)).alloc (.cells #[.slice none 0 0] 107)) F (.slice none 0 0) [] :=
    ⟨hb0, hN1.alloc _, hN2, World.ownsRow_nil _ _ _ _, rfl, fun r hr => by simp at hr, fun b hb => hb, fun b hb => .inl hb, fun b hb => Nat.lt_of_lt_of_le (hF b hb) hb0.size, fun h => by have := hF _ h; omega, fun g hg => by simp [Value.ownBlock] at hg⟩
  have hX1 := hX.of_eq (hb0.block X hX.lt)
  have c2 := hX1.cell 2; have hXl := hX1.lt
  simp at c2
  obtain ⟨pa, pc, epv, hpc⟩ := hP.at
  obtain ⟨ra, rb, rc, erv⟩ := row_form hrow
  have hrb : rb = rs.length := by
    rcases hrow.2 with ⟨e, h0⟩ | ⟨g, cap, cur, e, _⟩
    · rw [e] at erv; cases erv; exact h0.symm
    · rw [e] at erv; cases erv; rfl
  have hcall : ∀ (wr : World) (done : List (Nat × List Nat)) (F' : Nat → Prop) (a : Option Addr) (b c : Nat) (gs : List MRun) (r : MRun), GrownAt F w paths svs evs sps e ip w.heap.size (w.heap.size + 1) done wr F' (.slice a b c) gs → RunV F w paths svs evs sps r → r.pl.2.length < (paths.getD r.pl.1 []).length → (∃ a b c, r.sv = .slice a b c) → done.length ≤ 600000 →
      Calls Tryz.prog 108 #[r.val, .pointer (some ⟨w.heap.size, 0, none⟩), .pointer (some ⟨w.heap.size + 1, 0, none⟩)] wr fun x w' => x = .returned (.tuple #[]) ∧ ∃ F2 a b c gs2, GrownAt F w paths svs evs sps e ip w.heap.size (w.heap.size + 1) (done ++ [r.pl]) w' F2 (.slice a b c) gs2 := by
    intro wr done F' a b c gs r hG hr h1 h2 h3
    have hr2 := hr.to hG.keepS hG.bel.size
    have hS2 := hS.to hG.keepS hG.bel.size
    have hp8 : (paths.getD r.pl.1 []).length ≤ 10000 := by
      have hi := hr.path
      have : paths.getD r.pl.1 [] = paths[r.pl.1] := by simp [List.getD, hi]
      rw [this]; exact (hpl _ (List.getElem_mem hi)).2
    refine (try_p hr2 hS2 hW h1 hp8 h2 (Blk.of_eq hip (hG.bel.block ip hip.lt)) hG.n1 hG.n2 hG.row (Nat.le_trans hG.count (by omega)) hG.bel.size).mono ?_
    rintro x w' ⟨q1, q2⟩
    obtain ⟨F2, a2, b2, c2, gs2, q3, _⟩ := hG.step hr2 hS2 (by omega) q2 (by omega) (by omega)
    exact ⟨q1, F2, a2, b2, c2, gs2, q3⟩
  have hXw : ∀ wr, Below w.heap.size w wr → wr.cell? ⟨X, 5, none⟩ = some rv ∧ X < wr.heap.size := fun wr hb => by
    have := (hX.of_eq (hb.block X hX.lt))
    exact ⟨by rw [this.cell 5]; simp, this.lt⟩
  have hsl : (seedsP (absP paths)).length = paths.length := by simp [seedsP, absP]
  have HC : Hid _ := hcall
  have HG0 : Hid _ := hG0
  have HXw : Hid _ := hXw
  have HPl : Hid (∀ p ∈ paths, 0 < p.length ∧ p.length ≤ 10000) := hpl
  have HSL : Hid ((seedsP (absP paths)).length = paths.length) := hsl
  have HRb : Hid (rb = rs.length) := hrb
  subst epv erv
  clear hcall hG0 hXw hpl hN1 hN2 hS hip hX hX1 hsl hF hrb
  go_enter Tryz.func73, Tryz.ntmps73
  go_wp2
  go_loopw [17] (fun i wr => ∃ (k : Nat) (F' : Nat → Prop) (a : Option Addr) (b c : Nat) (gs : List MRun), k ≤ paths.length ∧ i = .int .i64 k ∧ GrownAt F w paths svs evs sps e ip w.heap.size (w.heap.size + 1) ((seedsP (absP paths)).take k) wr F' (.slice a b c) gs) (fun i _ => paths.length - (intOf i).toNat)
  case atStart => exact ⟨0, F, none, 0, 0, [], Nat.zero_le _, rfl, HG0.out⟩
  case round =>
    obtain ⟨k, F', a, b, c, gs, hk, rfl, hG⟩ := hrel
    clear HG0
    by_cases hlt : k < paths.length
    · obtain ⟨g, rfl, hg, hc⟩ := hpc (by omega)
      have hk' : k < svs.length := by rw [hP.len]; exact hlt
      have hck := (hG.bel.cell (p := ⟨g, k, none⟩) hg).trans (hc k hk')
      obtain ⟨sa, sb, sc, esv⟩ := (hP.steps k hk' hlt).form
      have hpk := (HPl.out paths[k] (List.getElem_mem hlt)).1
      have hgd : svs.getD k default = .slice sa sb sc := by simp [List.getD, hk', esv]
      have hcall := HC.out wr _ F' a b c gs (seedR svs k) hG (seed_runV hP k hlt) (by show 0 < (paths.getD k []).length; simpa [List.getD, hlt] using hpk) ⟨sa, sb, sc, hgd⟩ (by rw [List.length_take, HSL.out]; omega)
      have HT : Hid ((seedsP (absP paths)).take (k + 1) = (seedsP (absP paths)).take k ++ [(seedR svs k).pl]) := seeds_take paths k hlt
      have hval : (seedR svs k).val = .agg #[.slice sa sb sc, .slice none 0 0] := by unfold MRun.val; show Value.agg #[svs.getD k default, _] = _; rw [hgd]; rfl
      rw [hval] at hcall
      rw [esv] at hck
      have hgl : g < wr.heap.size := Nat.lt_of_lt_of_le hg hG.bel.size
      have hki : (k : Int) < (paths.length : Int) := by omega
      have hk0 : (0 : Int) ≤ (k : Int) := by omega
      clear hc hpc hG
      generalize (seedsP (absP paths)).take k = dn at *
      go_wp2_with (go_at_call 108; refine hcall.mono ?_; rintro x w1 ⟨rfl, F2, a2, b2, c2, gs2, hG2⟩)
      go_roundw
      case rel => exact ⟨k + 1, F2, a2, b2, c2, gs2, hlt, by go_num, by rw [HT.out]; exact hG2⟩
      case measure => simp [intOf]; omega
    · have ek : k = paths.length := by omega
      subst ek
      obtain ⟨y5, hXl2⟩ := HXw.out wr hG.bel
      have HG1 : Hid (GrownAt F w paths svs evs sps e ip w.heap.size (w.heap.size + 1) (seedsP (absP paths) ++ (rs.map MRun.pl).take 0) wr F' (.slice a b c) gs) := by
        show GrownAt _ _ _ _ _ _ _ _ _ _ _ _ _ _ _
        rw [List.take_of_length_le (by rw [HSL.out]; exact Nat.le_refl _)] at hG
        rw [List.take_zero, List.append_nil]
        exact hG
      have hbel1 := hG.bel
      clear hG hpc
      rw [HRb.out] at y5
      go_wp2
      obtain ⟨wo, rfl⟩ : ∃ x, x = wr := ⟨_, rfl⟩
      go_loopw [31] (fun i wr => ∃ (k : Nat) (F' : Nat → Prop) (a : Option Addr) (b c : Nat) (gs : List MRun), k ≤ rs.length ∧ i = .int .i64 k ∧ GrownAt F w paths svs evs sps e ip w.heap.size (w.heap.size + 1) (seedsP (absP paths) ++ (rs.map MRun.pl).take k) wr F' (.slice a b c) gs) (fun i _ => rs.length - (intOf i).toNat)
      case atStart => exact ⟨0, F', a, b, c, gs, Nat.zero_le _, rfl, HG1.out⟩
      case round =>
        obtain ⟨k, F3, a3, b3, c3, gs3, hk3, rfl, hG⟩ := hrel
        clear HG1
        by_cases hlt : k < rs.length
        · obtain ⟨g, cap, erow⟩ : ∃ g cap, (Value.slice ra rb rc) = .slice (some ⟨g, 0, none⟩) rs.length cap := by
            rcases hrow.2 with ⟨_, h0⟩ | ⟨g, cap, cur, e, _⟩
            · omega
            · exact ⟨g, cap, e⟩
          obtain ⟨rfl, _, rfl⟩ : ra = some ⟨g, 0, none⟩ ∧ rb = rs.length ∧ rc = cap := by simpa using erow
          have hrow' := hrow
          rw [erow] at hrow'
          obtain ⟨d0, d1⟩ := run_cells hrow' k hlt
          have hg := (hrow'.lt g rfl).2
          obtain ⟨q1, q2, sa, sb, sc, esv⟩ := hR rs[k] (List.getElem_mem hlt)
          rw [esv] at d0
          have e0 := (hG.bel.cell (p := ⟨g, k * 2, none⟩) hg).trans d0
          have e1 := (hG.bel.cell (p := ⟨g, k * 2 + 1, none⟩) hg).trans d1
          have hgl : g < wr.heap.size := Nat.lt_of_lt_of_le hg hG.bel.size
          have hbx : Below wr.heap.size wr (wr.alloc (.cells #[.slice sa sb sc, .slice rs[k].ta rs[k].ps.length rs[k].tc] 163)) := (Below.refl _ wr).alloc (Nat.le_refl _) _
          have hcall := HC.out _ _ F3 a3 b3 c3 gs3 rs[k] (hG.keep hbx) q1 q2 ⟨sa, sb, sc, esv⟩ (by rw [List.length_append, HSL.out, List.length_take, List.length_map]; omega)
          have HT : Hid (seedsP (absP paths) ++ (rs.map MRun.pl).take (k + 1) = seedsP (absP paths) ++ (rs.map MRun.pl).take k ++ [rs[k].pl]) := by
            show _ = _
            rw [List.take_succ_eq_append_getElem (by simpa using hlt), List.append_assoc]; simp
          unfold MRun.val at hcall
          rw [esv] at hcall
          have hki : (k : Int) < (rs.length : Int) := by omega
          have hk0 : (0 : Int) ≤ (k : Int) := by omega
          clear hG hR hrow hrow' d0 d1 q1 q2 erow hbx
          generalize seedsP (absP paths) ++ (rs.map MRun.pl).take k = dn at *
          generalize rs[k].pl = plk at *
          generalize rs[k].ta = ta at *
          generalize rs[k].ps.length = tb at *
          generalize rs[k].tc = tc at *
          go_wp2_with (go_at_call 108; refine hcall.mono ?_; rintro x w1 ⟨rfl, F4, a4, b4, c4, gs4, hG4⟩)
          go_roundw
          case rel => exact ⟨k + 1, F4, a4, b4, c4, gs4, hlt, by go_num, by rw [HT.out]; exact hG4⟩
          case measure => simp [intOf]; omega
        · have ek : k = rs.length := by omega
          subst ek
          have HEnd : Hid (GrownAt F w paths svs evs sps e ip w.heap.size (w.heap.size + 1) (seedsP (absP paths) ++ rs.map MRun.pl) wr F3 (.slice a3 b3 c3) gs3) := by
            show GrownAt _ _ _ _ _ _ _ _ _ _ _ _ _ _ _
            rw [List.take_of_length_le (by simp)] at hG
            exact hG
          have z0 := hG.n2.cell 0; have zl := hG.n2.lt
          simp at z0
          clear hG
          go_wp2
          go_ret
          exact ⟨F3, a3, b3, c3, gs3, rfl, HEnd.out⟩
end Go.Proofs.YtddbjcfdmdbmkaaGreatDoor

namespace Go.Proofs.YtddbjcfdmdbmkaaGreatDoor
open Go.RowKit

def IntsAt (w : World) (v : Value) (l : List Nat) : Prop := ∃ a c, v = .slice a l.length c ∧ (0 < l.length → ∃ g, a = some ⟨g, 0, none⟩ ∧ g < w.heap.size ∧ ∀ k, (hk : k < l.length) → w.cell? ⟨g, k, none⟩ = some (.int .i64 (l[k] : Nat)))
theorem IntsAt.of_row {w : World} {b : Nat} {v : Value} {l : List Nat} (h : w.ownsRow b 3 1 v l.length (l.map fun n => Value.int .i64 (n : Nat))) : IntsAt w v l := by
  rcases h.2 with ⟨rfl, h0⟩ | ⟨g, cap, cur, rfl, _, hg, _⟩
  · exact ⟨none, 0, by rw [h0], fun h => by omega⟩
  · refine ⟨_, _, rfl, fun _ => ⟨g, rfl, (Array.getElem?_eq_some_iff.1 hg).1, fun k hk => ?_⟩⟩
    have := h.cells (g := g) rfl k (.int .i64 (l[k] : Nat)) (by rw [List.getElem?_map, List.getElem?_eq_getElem hk]; rfl)
    rw [addr_add, Nat.zero_add] at this; exact this
def cmpN (a b : Nat) : Int := if a < b then -1 else if b < a then 1 else 0
set_option maxRecDepth 100000 in
set_option maxHeartbeats 800000 in
theorem cmpInt_p (a b : Nat) (w : World) : Calls Tryz.prog 159 #[.int .i64 (a : Nat), .int .i64 (b : Nat)] w fun e w' => e = .returned (.int .i64 (cmpN a b)) ∧ w' = w := by
  unfold cmpN
  by_cases h1 : a < b
  · rw [if_pos h1]
    have h1' : (a : Int) < (b : Int) := by omega
    go_enter Tryz.func159, Tryz.ntmps159
    go_wp2
    go_ret
    exact ⟨rfl, rfl⟩
  · rw [if_neg h1]
    have h1' : (b : Int) ≤ (a : Int) := by omega
    by_cases h2 : b < a
    · rw [if_pos h2]
      have h2' : (b : Int) < (a : Int) := by omega
      go_enter Tryz.func159, Tryz.ntmps159
      go_wp2
      go_ret
      exact ⟨rfl, rfl⟩
    · rw [if_neg h2]
      have h2' : (a : Int) ≤ (b : Int) := by omega
      go_enter Tryz.func159, Tryz.ntmps159
      go_wp2
      go_ret
      exact ⟨rfl, rfl⟩
theorem cmpL_drop {a b : List Nat} {k : Nat} (ha : k < a.length) (hb : k < b.length) : cmpL (a.drop k) (b.drop k) = if cmpN a[k] b[k] = 0 then cmpL (a.drop (k + 1)) (b.drop (k + 1)) else cmpN a[k] b[k] := by
  rw [List.drop_eq_getElem_cons ha, List.drop_eq_getElem_cons hb]
  unfold cmpN
  conv => lhs; unfold cmpL
  by_cases h1 : a[k] < b[k]
  · simp [h1]
  · by_cases h2 : b[k] < a[k]
    · simp [h1, h2]
    · simp [h1, h2]
set_option maxRecDepth 100000 in
set_option maxHeartbeats 1600000 in
theorem compare_p {w : World} {va vb : Value} {a b : List Nat} (ha : IntsAt w va a) (hb : IntsAt w vb b) (hal : a.length ≤ 1000000) (hbl : b.length ≤ 1000000) :
    Calls Tryz.prog 121 #[va, vb] w fun e w' => e = .returned (.int .i64 (cmpL a b)) ∧ w' = w := by
  obtain ⟨aa, ac, rfl, hac⟩ := ha
  obtain ⟨ba, bc, rfl, hbc⟩ := hb
  go_enter Tryz.func121, Tryz.ntmps121
  go_wp2
  go_loopw [11] (fun i wr => ∃ k : Nat, k ≤ a.length ∧ k ≤ b.length ∧ i = .int .i64 k ∧ wr = w ∧ Hid (cmpL a b = cmpL (a.drop k) (b.drop k))) (fun i _ => a.length - (intOf i).toNat)
  case atStart => exact ⟨0, Nat.zero_le _, Nat.zero_le _, rfl, rfl, rfl⟩
  case round =>
    obtain ⟨k, hk, hkb, rfl, rfl, HC⟩ := hrel
    by_cases hlt : k < a.length
    · obtain ⟨g, rfl, hg, hc⟩ := hac (by omega)
      have hck := hc k hlt
      have hki : (k : Int) < (a.length : Int) := by omega
      have hk0 : (0 : Int) ≤ (k : Int) := by omega
      clear hc hac
      by_cases hlb : k < b.length
      · obtain ⟨g2, rfl, hg2, hc2⟩ := hbc (by omega)
        have hck2 := hc2 k hlb
        have hkb2 : (k : Int) < (b.length : Int) := by omega
        have hcmp := cmpInt_p a[k] b[k] wr
        have HD : Hid (cmpL (a.drop k) (b.drop k) = if cmpN a[k] b[k] = 0 then cmpL (a.drop (k + 1)) (b.drop (k + 1)) else cmpN a[k] b[k]) := cmpL_drop hlt hlb
        clear hc2 hbc
        generalize a[k] = xa at *
        generalize b[k] = xb at *
        by_cases hz : cmpN xa xb = 0
        · have HD2 : Hid (cmpL a b = cmpL (a.drop (k + 1)) (b.drop (k + 1))) := by show _ = _; rw [HC.out, HD.out, if_pos hz]
          rw [hz] at hcmp
          clear HD HC hz
          go_wp2_with (go_at_call 159; refine hcmp.mono ?_; rintro e w1 ⟨rfl, he1⟩; rw [he1])
          go_roundw
          case rel => exact ⟨k + 1, hlt, hlb, by go_num, trivial, HD2⟩
          case measure => simp [intOf]; omega
        · have HD2 : Hid (cmpL a b = cmpN xa xb) := by show _ = _; rw [HC.out, HD.out, if_neg hz]
          have hz2 : (cmpN xa xb == 0) = false := by simpa using hz
          generalize cmpN xa xb = cv at *
          clear HD HC
          go_wp2_with (go_at_call 159; refine hcmp.mono ?_; rintro e w1 ⟨rfl, he1⟩; rw [he1])
          go_ret
          rw [HD2.out]
          exact ⟨rfl, rfl⟩
      · have HD2 : Hid (cmpL a b = 1) := by
          show _ = _
          have hbd : b.drop k = [] := List.drop_of_length_le (by omega)
          rw [HC.out, hbd, List.drop_eq_getElem_cons hlt]; rfl
        have hkb2 : (b.length : Int) ≤ (k : Int) := by omega
        clear HC hbc
        go_wp2
        go_ret
        rw [HD2.out]
        exact ⟨rfl, rfl⟩
    · have ek : k = a.length := by omega
      subst ek
      by_cases hlb : a.length < b.length
      · have HD2 : Hid (cmpL a b = -1) := by
          show _ = _
          rw [HC.out, List.drop_length, List.drop_eq_getElem_cons hlb]; rfl
        have hlb' : (a.length : Int) < (b.length : Int) := by omega
        clear HC hac hbc
        go_wp2
        go_ret
        rw [HD2.out]
        exact ⟨rfl, rfl⟩
      · have HD2 : Hid (cmpL a b = 0) := by
          show _ = _
          have hbd : b.drop a.length = [] := List.drop_of_length_le (by omega)
          rw [HC.out, hbd, List.drop_length]; rfl
        have hlb' : (b.length : Int) ≤ (a.length : Int) := by omega
        clear HC hac hbc
        go_wp2
        go_ret
        rw [HD2.out]
        exact ⟨rfl, rfl⟩
set_option maxRecDepth 100000 in
set_option maxHeartbeats 1600000 in
theorem equal_p {w : World} {va vb : Value} {a b : List Nat} (ha : IntsAt w va a) (hb : IntsAt w vb b) (hal : a.length ≤ 1000000) (hbl : b.length ≤ 1000000) :
    Calls Tryz.prog 123 #[va, vb] w fun e w' => e = .returned (.bool (decide (a = b))) ∧ ∃ q, w' = w.drewN q := by
  obtain ⟨aa, ac, rfl, hac⟩ := ha
  obtain ⟨ba, bc, rfl, hbc⟩ := hb
  by_cases hl : a.length = b.length
  · have HLb : Hid (a.length = b.length) := hl
    have hl2 : ((a.length : Int) == (b.length : Int)) = true := by simp [hl]
    have hl3 : ((a.length : Int) != (b.length : Int)) = false := by simp [hl]
    clear hl
    go_enter Tryz.func123, Tryz.ntmps123
    go_wp2
    go_loopw [13] (fun i wr => ∃ k : Nat, k ≤ a.length ∧ i = .int .i64 k ∧ (∃ q, wr = w.drewN q) ∧ Hid (a.take k = b.take k)) (fun i _ => a.length - (intOf i).toNat)
    case atStart => exact ⟨0, Nat.zero_le _, rfl, ⟨0, rfl⟩, rfl⟩
    case round =>
      obtain ⟨k, hk, rfl, ⟨q, hq⟩, HT⟩ := hrel
      have hh : wr.heap = w.heap := by rw [hq]; rfl
      have HBel : Hid (∀ n, ∃ q, wr.drewN n = w.drewN q) := fun n => ⟨q + n, by rw [hq]; simp [World.drewN, Nat.add_assoc]⟩
      clear hq
      by_cases hlt : k < a.length
      · have hlb : k < b.length := by rw [← HLb.out]; exact hlt
        obtain ⟨g, rfl, hg, hc⟩ := hac (by omega)
        obtain ⟨g2, rfl, hg2, hc2⟩ := hbc (by omega)
        have e1 : wr.cell? ⟨g, k, none⟩ = some (.int .i64 (a[k] : Nat)) := (cell_eq (by rw [hh]) k).trans (hc k hlt)
        have e2 : wr.cell? ⟨g2, k, none⟩ = some (.int .i64 (b[k] : Nat)) := (cell_eq (by rw [hh]) k).trans (hc2 k hlb)
        have gl : g < wr.heap.size := by rw [hh]; exact hg
        have gl2 : g2 < wr.heap.size := by rw [hh]; exact hg2
        have hki : (k : Int) < (a.length : Int) := by omega
        have hkb : (k : Int) < (b.length : Int) := by omega
        have hk0 : (0 : Int) ≤ (k : Int) := by omega
        have HTk : Hid (a[k] = b[k] → a.take (k + 1) = b.take (k + 1)) := fun e => by rw [List.take_succ_eq_append_getElem hlt, List.take_succ_eq_append_getElem hlb, HT.out, e]
        have HNk : Hid (¬ a[k] = b[k] → decide (a = b) = false) := fun e => decide_eq_false (fun h => e (by subst h; rfl))
        clear hc hc2 hac hbc hh hg hg2 HT
        generalize a[k] = xa at *
        generalize b[k] = xb at *
        by_cases he : xa = xb
        · subst he
          go_wp2
          go_quiet (fail)
          go_wp2
          go_roundw
          case rel => exact ⟨k + 1, hlt, by go_num, HBel.out _, HTk.out trivial⟩
          case measure => simp [intOf]; omega
        · have he2 : ((xa : Int) != (xb : Int)) = true := by simp; omega
          have he3 : ((xa : Int) == (xb : Int)) = false := by simp; omega
          have he4 : ¬ (xa : Int) = (xb : Int) := by omega
          go_wp2
          go_quiet (fail)
          go_wp2
          go_ret
          rw [HNk.out he]
          exact ⟨rfl, HBel.out _⟩
      · have ek : k = a.length := by omega
        subst ek
        have HE : Hid (decide (a = b) = true) := decide_eq_true (by
          have := HT.out
          rw [List.take_length, HLb.out, List.take_length] at this
          exact this)
        clear hac hbc hh
        go_wp2
        go_ret
        rw [HE.out]
        exact ⟨rfl, HBel.out 0⟩
  · have hl2 : ((a.length : Int) == (b.length : Int)) = false := by simp; omega
    have hl3 : ((a.length : Int) != (b.length : Int)) = true := by simp; omega
    have hl4 : ¬ (a.length : Int) = (b.length : Int) := by omega
    have HN : Hid (decide (a = b) = false) := decide_eq_false (fun h => hl (by rw [h]))
    clear hac hbc
    go_enter Tryz.func123, Tryz.ntmps123
    go_wp2
    go_ret
    rw [HN.out]
    exact ⟨rfl, 0, rfl⟩
end Go.Proofs.YtddbjcfdmdbmkaaGreatDoor
