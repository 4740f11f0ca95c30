import Derived.Test.YtddbjcfdmdbmkaaGreatDoorB23
import Derived.Test.YtddbjcfdmdbmkaaGreatDoorB24
import Derived.Test.YtddbjcfdmdbmkaaGreatDoorB01
import Derived.Deep.QuietTactic
import Derived.BigQuiet
set_option linter.unusedVariables false
set_option linter.unusedSimpArgs false
namespace Go.Proofs.YtddbjcfdmdbmkaaGreatDoor
open Go.RowKit

def PathsS (S : Nat → Prop) (w : World) (v : Value) (ps : List (List WStep)) : Prop := ∃ vs : List Value, vs.length = ps.length ∧ w.ownsRow 0 112 1 v ps.length vs ∧ (∀ g, v.ownBlock = some g → S g) ∧ ∀ i, (h : i < vs.length) → (h' : i < ps.length) → StepsS S w vs[i] ps[i]
theorem PathsS.to {S S' : Nat → Prop} {w w' : World} {v : Value} {ps : List (List WStep)} (h : PathsS S w v ps) (hk : KeepS S w S' w') : PathsS S' w' v ps := by
  obtain ⟨vs, h1, h2, h3, h4⟩ := h
  exact ⟨vs, h1, row_of_blk h2 fun g hg => (hk g (h3 g hg) (h2.lt g hg).2).2, fun g hg => (hk g (h3 g hg) (h2.lt g hg).2).1, fun i a b => (h4 i a b).to hk⟩
def NewS (H : Nat) (v : Value) : Nat → Prop := fun b => H ≤ b ∧ b ≠ H + 1 ∧ v.ownBlock ≠ some b
theorem news_app {H : Nat} {wr w5 w7 : World} {rv : Value} {vs : List Value} {qs : List (List WStep)} {x u : Value} {q : List WStep} {g7 n cap7 : Nat} {o : Obj}
    (hl : vs.length = qs.length) (hi : ∀ i, (h : i < vs.length) → (h' : i < qs.length) → StepsS (NewS H rv) wr vs[i] qs[i]) (hb : Below wr.heap.size wr w5) (hH : H + 1 < wr.heap.size) (hrb : ∀ b, rv.ownBlock = some b → b < wr.heap.size) (hx : StepsS (fun b => wr.heap.size ≤ b) w5 x q) (hg : (w5.alloc o).grownBy w7 rv.ownBlock) (hat : rv.ownBlock = some g7 ∨ g7 = w5.heap.size + 1) :
    ∀ i, (h : i < (vs ++ [x]).length) → (h' : i < (qs ++ [q]).length) → StepsS (NewS H (.slice (some ⟨g7, 0, none⟩) n cap7)) (w7.setCell ⟨H + 1, 2, none⟩ u) (vs ++ [x])[i] (qs ++ [q])[i] := by
  have hs := hb.size
  have h8 : ∀ b, b < w5.heap.size → b ≠ H + 1 → rv.ownBlock ≠ some b → (w7.setCell ⟨H + 1, 2, none⟩ u).heap[b]? = w5.heap[b]? := fun b hl hx hr =>
    (Below.heap_setCell _ _ _ _ (fun e => hx (by simp at e; omega))).trans ((hg.block b (by simp; omega) (fun e => hr e.symm)).trans (Below.heap_alloc _ _ _ hl))
  have hg7 : ∀ b, b < w5.heap.size → rv.ownBlock ≠ some b → (Value.slice (some ⟨g7, 0, none⟩) n cap7).ownBlock ≠ some b := fun b hl hr e => by
    simp only [Value.ownBlock, Option.some.injEq] at e
    rcases hat with h | h
    · rw [e] at h; exact hr h
    · omega
  have hk : KeepS (NewS H rv) wr (NewS H (.slice (some ⟨g7, 0, none⟩) n cap7)) (w7.setCell ⟨H + 1, 2, none⟩ u) := by
    rintro b ⟨h1, h2, h3⟩ hlb
    exact ⟨⟨h1, h2, hg7 b (by omega) h3⟩, (h8 b (by omega) h2 h3).trans (hb.block b hlb)⟩
  have hc : KeepS (fun b => wr.heap.size ≤ b) w5 (NewS H (.slice (some ⟨g7, 0, none⟩) n cap7)) (w7.setCell ⟨H + 1, 2, none⟩ u) := by
    intro b h1 hlb
    have hr : rv.ownBlock ≠ some b := fun e => by have := hrb b e; omega
    exact ⟨⟨by omega, by omega, hg7 b hlb hr⟩, h8 b hlb (by omega) hr⟩
  intro i h h'
  by_cases hi' : i < vs.length
  · rw [List.getElem_append_left hi', List.getElem_append_left (by omega)]; exact (hi i hi' (by omega)).to hk
  · have e : i = vs.length := by simp at h; omega
    subst e
    rw [List.getElem_append_right (by omega), List.getElem_append_right (by omega)]
    simp only [hl, Nat.sub_self, List.getElem_cons_zero]
    exact hx.to hc
theorem stepsOf_path_s {own : Nat → Nat} {w : World} {v : Value} {l : List PPart} (h : PathN own w v l) (hl : l.length ≤ 100000) (hol : ∀ p ∈ l, p.cond.length ≤ 1000000) (hne : l ≠ []) :
    Calls Tryz.prog 56 #[v] w fun e w' => ∃ a n c, e = .returned (.slice a n c) ∧ Below w.heap.size w w' ∧ StepsS (fun b => w.heap.size ≤ b) w' (.slice a n c) (stepsP l) := by
  rcases h.1 with ⟨e, _⟩ | ⟨g, off, cap, rfl, hc, hP⟩
  · exact absurd e hne
  · exact stepsOf_s hP hc hl hol

set_option maxRecDepth 100000 in
set_option maxHeartbeats 3200000 in
theorem new_s {own : Nat → Nat} {w : World} {pv : Value} {ps : List (List PPart)} (hP : PathsLie own w pv ps) (win rate bd : Int) (h16 : ps.length ≤ 1000) (hps : ∀ l ∈ ps, l.length ≤ 100000 ∧ l ≠ [] ∧ ∀ p ∈ l, p.cond.length ≤ 1000000) :
    Calls Tryz.prog 36 #[.agg #[.int .i64 win, .int .i64 rate, .int .i64 bd, pv]] w fun e w' => ∃ X, e = .returned (.pointer (some ⟨X, 0, none⟩)) ∧ Below w.heap.size w w' ∧ w.heap.size ≤ X ∧ ∃ a n c, Blk w' X (WatchC win rate (.slice a n c)) 110 ∧ PathsS (fun b => w.heap.size ≤ b ∧ b ≠ X) w' (.slice a n c) (ps.map stepsP) := by
  obtain ⟨i0, hi0, hz0, hz1, hz2⟩ := info_parts Tryz.infoWsteps
  obtain ⟨pa, pn, pc, epv⟩ : ∃ a n c, pv = .slice a n c := by obtain ⟨vs, _, h, _⟩ := hP; exact row_form h
  subst epv
  have epn : pn = ps.length := by
    obtain ⟨vs, _, h, _⟩ := hP
    rcases h.2 with ⟨e, h0⟩ | ⟨g, c, cur, e, _⟩ <;> cases e
    · exact h0.symm
    · rfl
  subst epn
  have hB0 := Blk.new w #[.int .i64 win, .int .i64 rate, .int .i64 bd, .slice pa ps.length pc] 67
  have p0 := hB0.cell 0; have p1 := hB0.cell 1; have p3 := hB0.cell 3
  simp at p0 p1 p3
  have hX0 := Blk.new (w.alloc (.cells #[.int .i64 win, .int .i64 rate, .int .i64 bd, .slice pa ps.length pc] 67)) (WatchC win rate (.slice none 0 0)) 110
  have hbel0 : Below w.heap.size w ((w.alloc (.cells #[.int .i64 win, .int .i64 rate, .int .i64 bd, .slice pa ps.length pc] 67)).alloc (.cells (WatchC win rate (.slice none 0 0)) 110)) := ((Below.refl _ w).alloc (Nat.le_refl _) _).alloc (by simp) _
  rw [alloc_size] at hX0
  unfold WatchC at hX0 hbel0
  go_enter Tryz.func36, Tryz.ntmps36
  go_wp2_with fail
  go_loopw [15] (fun i wr => ∃ k : Nat, k ≤ ps.length ∧ i = .int .i64 k ∧ Below w.heap.size w wr ∧ ∃ a b c xs, Blk wr (w.heap.size + 1) #[.int .i64 win, .int .i64 rate, .slice a b c, .int .i64 0, .slice none 0 0, .slice none 0 0] 110 ∧ wr.ownsRow w.heap.size 112 1 (.slice a b c) k xs ∧ xs.length = ((ps.take k).map stepsP).length ∧ ∀ i, (h : i < xs.length) → (h' : i < ((ps.take k).map stepsP).length) → StepsS (NewS w.heap.size (.slice a b c)) wr xs[i] ((ps.take k).map stepsP)[i]) (fun i _ => ps.length - (intOf i).toNat)
  case atStart => exact ⟨0, Nat.zero_le _, rfl, hbel0, none, 0, 0, [], hX0, World.ownsRow_nil _ _ _ _, rfl, fun i h => by simp at h⟩
  case round =>
    obtain ⟨k, hk, rfl, hbel, ra, rb, rc, xs, hX, hrow, hxl, hxs⟩ := hrel
    clear hX0 hbel0 hB0 p0 p1 p3
    have hws := hbel.size
    have hXl := hX.lt
    have x2 := hX.cell 2
    have xf := hX.frozen 2
    simp at x2
    by_cases hlt : k < ps.length
    · obtain ⟨g, cap, epv, hg, hcol, hcell⟩ := hP.open (by omega)
      simp only [Value.slice.injEq] at epv
      obtain ⟨rfl, _, rfl⟩ := epv
      obtain ⟨v, hcv, hpn⟩ := hcell k hlt
      have hcv' := (hbel.cell (p := ⟨g, k, none⟩) hg).trans hcv
      obtain ⟨hl1, hl2, hl3⟩ := hps ps[k] (List.getElem_mem _)
      have hcall : ∀ W, Below wr.heap.size wr W → Calls Tryz.prog 56 #[v] W fun e w' => ∃ a n c, e = .returned (.slice a n c) ∧ Below wr.heap.size wr w' ∧ StepsS (fun b => wr.heap.size ≤ b) w' (.slice a n c) (stepsP ps[k]) := fun W hW => by
        refine (stepsOf_path_s ⟨hpn.1.ext (Ext.of_below (own := own) (hbel.trans (hW.mono hbel.size))), hpn.2⟩ hl1 hl3 hl2).mono ?_
        rintro e w' ⟨a, n, c, h1, h2, h3⟩
        exact ⟨a, n, c, h1, hW.trans (h2.mono hW.size), h3.to (fun b hb _ => ⟨Nat.le_trans hW.size hb, rfl⟩)⟩
      obtain ⟨va, vb, vc, ev⟩ : ∃ a b c, v = .slice a b c := by rcases hpn.1 with ⟨_, p, c, e⟩ | ⟨g, off, cap, e, _⟩ <;> exact ⟨_, _, _, e⟩
      subst ev
      have hki : (k : Int) < (ps.length : Int) := by omega
      have hk0 : (0 : Int) ≤ (k : Int) := by omega
      have HQ : Hid ((ps.take (k + 1)).map stepsP = (ps.take k).map stepsP ++ [stepsP ps[k]]) := by show _ = _; rw [List.take_succ_eq_append_getElem hlt, List.map_append]; rfl
      have HXS : Hid (∀ i, (h : i < xs.length) → (h' : i < ((ps.take k).map stepsP).length) → StepsS (NewS w.heap.size (.slice ra rb rc)) wr xs[i] ((ps.take k).map stepsP)[i]) := hxs
      have HXL : Hid (xs.length = ((ps.take k).map stepsP).length) := hxl
      clear hcell hcv hpn hxs hxl
      generalize stepsP ps[k] = qn at *
      generalize (ps.take k).map stepsP = qs at *
      go_upto_region 5 with fail
      go_region_law (first
        | (refine step_append_lies _ (by rfl) _ _ 106 (by rfl) w.heap.size 112 i0 _ 1 24 Tryz.underlying106 hi0 hz0 hz1 hz2 rfl (by decide) _ k xs (by rfl) (hrow5.alloc _) ⟨w5.heap.size, 0, none⟩ 1 1 [.slice sa sn sc] (by rfl) rfl (World.news_of_block (alloc_at _ _ _ (by simp))) (by simp [Value.oneCell']) (by decide) (by unfold maxLen; omega) (by omega) (by simp; omega) (w5.heap.size + 1) (by simp) ?_; intro g7 cap7 w7 hown7 hgrow7 hat7 hlt7; have hX7 := (hX5.alloc (.cells #[.slice sa sn sc] 112)).of_eq (hgrow7.block (w.heap.size + 1) (by simp; omega) (fun e => blk_apart hX5 hrow5 (by decide) e.symm)); have u2 := hX7.cell 2; have uf := hX7.frozen 2; have hXl7 := hX7.lt; simp at u2)
        | (go_simp; refine (hcall _ (by first | exact Below.refl _ _ | exact ⟨rfl, rfl, rfl, Nat.le_refl _, fun _ _ => rfl⟩)).mono ?_; rintro e w5 ⟨sa, sn, sc, rfl, hb5, hst5⟩; have hX5 := hX.of_eq (hb5.block (w.heap.size + 1) hXl); have y2 := hX5.cell 2; have yf := hX5.frozen 2; have hXl5 := hX5.lt; simp at y2; have hrow5 := row_of_blk hrow (w' := w5) (fun z hz => hb5.block z (hrow.lt z hz).2); have hbel5 : Below w.heap.size w w5 := hbel.trans (hb5.mono hbel.size); have hws5 := hbel5.size; show _; dsimp only))
      all_goals
        have hX8 : Blk (w7.setCell ⟨w.heap.size + 1, 2, none⟩ (.slice (some ⟨g7, 0, none⟩) (k + 1) cap7)) (w.heap.size + 1) #[.int .i64 win, .int .i64 rate, .slice (some ⟨g7, 0, none⟩) (k + 1) cap7, .int .i64 0, .slice none 0 0, .slice none 0 0] 110 := by simpa using hX7.set 2 (.slice (some ⟨g7, 0, none⟩) (k + 1) cap7)
        have hbel8 : Below w.heap.size w (w7.setCell ⟨w.heap.size + 1, 2, none⟩ (.slice (some ⟨g7, 0, none⟩) (k + 1) cap7)) := below_grown (below_grown (hbel5.alloc hbel5.size _) hgrow7 (fun z e => (hrow5.lt z e).1)) (grownBy_setCell _ _ _) (fun z e => by cases e; exact Nat.le_succ _)
        have hrow8 := row_of_blk hown7 (w' := w7.setCell ⟨w.heap.size + 1, 2, none⟩ (.slice (some ⟨g7, 0, none⟩) (k + 1) cap7)) (fun z hz => (grownBy_setCell w7 ⟨w.heap.size + 1, 2, none⟩ _).block z (hown7.lt z hz).2 (fun e => by simp at e; subst e; exact blk_apart hX7 hown7 (by decide) hz))
        have HN : Hid (∀ i, (h : i < (xs ++ [Value.slice sa sn sc]).length) → (h' : i < ((ps.take (k + 1)).map stepsP).length) → StepsS (NewS w.heap.size (.slice (some ⟨g7, 0, none⟩) (k + 1) cap7)) (w7.setCell ⟨w.heap.size + 1, 2, none⟩ (.slice (some ⟨g7, 0, none⟩) (k + 1) cap7)) (xs ++ [Value.slice sa sn sc])[i] ((ps.take (k + 1)).map stepsP)[i]) := by
          show ∀ i, _
          rw [HQ.out]
          exact news_app HXL.out HXS.out hb5 hXl (fun b hb => (hrow.lt b hb).2) hst5 hgrow7 hat7
        have HNl : Hid ((xs ++ [Value.slice sa sn sc]).length = ((ps.take (k + 1)).map stepsP).length) := by show _ = _; rw [HQ.out, List.length_append, List.length_append, HXL.out]; rfl
        clear hown7 hgrow7 hat7
        go_wp2_with fail
        first
        | (go_roundw
           case rel => exact ⟨k + 1, by omega, by go_num, hbel8, _, _, _, _, hX8, hrow8, HNl.out, HN.out⟩
           case measure => simp [intOf]; omega)
        | (refine ⟨⟨k + 1, by omega, by go_num, hbel8, _, _, _, _, hX8, hrow8, HNl.out, HN.out⟩, by simp [intOf]; omega⟩)
    · have e : k = ps.length := by omega
      subst e
      rw [List.take_length] at hxl hxs
      have HF : Hid (PathsS (fun b => w.heap.size ≤ b ∧ b ≠ w.heap.size + 1) wr (.slice ra rb rc) (ps.map stepsP)) := ⟨xs, hxl, by rw [List.length_map]; exact row_base0 hrow, fun g hg => ⟨(hrow.lt g hg).1, fun e => by subst e; exact blk_apart hX hrow (by decide) hg⟩, fun i h h' => (hxs i h h').to (fun b hb _ => ⟨⟨hb.1, hb.2.1⟩, rfl⟩)⟩
      clear hxs hxl
      go_wp2
      go_ret
      exact ⟨_, rfl, hbel, by omega, ra, rb, rc, hX, HF.out⟩
end Go.Proofs.YtddbjcfdmdbmkaaGreatDoor

namespace Go.Proofs.YtddbjcfdmdbmkaaGreatDoor
open Go.RowKit

theorem Tryz.infoIntF : (Tryz.prog.info? 3).map (fun i => (i.zero, i.size, i.bytes)) = some (some (.int .i64 0), 1, 8) := by kernel_rfl
def Stk (w : World) (B : Nat) (av itv : Value) (st : List Int) (bz : Bool) : Prop := ∃ nv, Blk w B #[av, itv, nv, .bool bz] 283 ∧ w.ownsRow B 3 1 nv st.length (st.map (Value.int .i64))
theorem Stk.lt {w : World} {B : Nat} {av itv : Value} {st : List Int} {bz : Bool} (h : Stk w B av itv st bz) : B < w.heap.size := by obtain ⟨nv, h, _⟩ := h; exact h.lt
theorem Stk.alloc {w : World} {B : Nat} {av itv : Value} {st : List Int} {bz : Bool} (h : Stk w B av itv st bz) (o : Obj) : Stk (w.alloc o) B av itv st bz := by
  obtain ⟨nv, h1, h2⟩ := h
  exact ⟨nv, h1.alloc _, h2.alloc _⟩
theorem Stk.drew {w : World} {B : Nat} {av itv : Value} {st : List Int} {bz : Bool} (h : Stk w B av itv st bz) : Stk w.drew B av itv st bz := by
  obtain ⟨nv, h1, h2⟩ := h
  exact ⟨nv, h1, h2⟩
theorem Stk.zero {w : World} {B : Nat} {av itv : Value} {st : List Int} {bz : Bool} (h : Stk w B av itv st bz) (b : Bool) : Stk (w.setCell ⟨B, 3, none⟩ (.bool b)) B av itv st b := by
  obtain ⟨nv, h1, h2⟩ := h
  exact ⟨nv, by simpa using h1.set 3 (.bool b), row_of_blk h2 fun g hg => (grownBy_setCell w ⟨B, 3, none⟩ (.bool b)).block g (h2.lt g hg).2 (fun e => by simp at e; subst e; exact blk_apart h1 h2 (by decide) hg)⟩
theorem below_setCell {w : World} {B k : Nat} (v : Value) : Below B w (w.setCell ⟨B, k, none⟩ v) := (Below.refl B w).setCell (p := ⟨B, k, none⟩) (Nat.le_refl _) v

def cmpP (l : Int) (s : ByteArray) (r : Int) : Bool :=
  if s.toList == [61] then l == r else if s.toList == [33, 61] then l != r else if s.toList == [60] then decide (l < r) else if s.toList == [60, 61] then decide (l ≤ r) else if s.toList == [62] then decide (r < l) else decide (r ≤ l)
set_option maxRecDepth 100000 in
set_option maxHeartbeats 1600000 in
theorem stkCmp_p (l r : Int) (s : ByteArray) (w : World) : Calls Tryz.prog 241 #[.int .i64 l, .string s, .int .i64 r] w fun e w' => e = .returned (.bool (cmpP l s r)) ∧ w' = w := by
  unfold cmpP
  cases h1 : s.toList == [61] with
  | true =>
    go_enter Tryz.func241, Tryz.ntmps241
    go_wp2
    go_ret
    exact ⟨by simp, rfl⟩
  | false =>
  cases h2 : s.toList == [33, 61] with
  | true =>
    go_enter Tryz.func241, Tryz.ntmps241
    go_wp2
    go_ret
    exact ⟨by simp, rfl⟩
  | false =>
  cases h3 : s.toList == [60] with
  | true =>
    go_enter Tryz.func241, Tryz.ntmps241
    go_wp2
    go_ret
    exact ⟨by simp, rfl⟩
  | false =>
  cases h4 : s.toList == [60, 61] with
  | true =>
    go_enter Tryz.func241, Tryz.ntmps241
    go_wp2
    go_ret
    exact ⟨by simp, rfl⟩
  | false =>
  cases h5 : s.toList == [62] with
  | true =>
    go_enter Tryz.func241, Tryz.ntmps241
    go_wp2
    go_ret
    exact ⟨by simp, rfl⟩
  | false =>
    go_enter Tryz.func241, Tryz.ntmps241
    go_wp2
    go_ret
    exact ⟨by simp, rfl⟩

def tstP (bz : Bool) (l : Int) (s : ByteArray) (r : Int) : Int := if !bz && cmpP l s r then 1 else 0
set_option maxRecDepth 100000 in
set_option maxHeartbeats 1600000 in
theorem stkTest_p {w : World} {B : Nat} {av itv : Value} {st : List Int} {bz : Bool} (h : Stk w B av itv st bz) (l r : Int) (s : ByteArray) :
    Calls Tryz.prog 233 #[.pointer (some ⟨B, 0, none⟩), .int .i64 l, .string s, .int .i64 r] w fun e w' => e = .returned (.int .i64 (tstP bz l s r)) ∧ Stk w' B av itv st false ∧ Below B w w' := by
  have hE := h.zero false
  obtain ⟨nv, hb, hrow⟩ := h
  have c3 := hb.cell 3; have f3 := hb.frozen 3; have hl := hb.lt
  simp at c3
  have hc := fun w => stkCmp_p l r s w
  unfold tstP
  generalize cmpP l s r = c at *
  cases bz with
  | true =>
    go_enter Tryz.func233, Tryz.ntmps233
    go_wp2_with (first
      | (go_at_call 241; refine (hc _).mono ?_; rintro e w1 ⟨rfl, rfl⟩))
    go_ret
    exact ⟨rfl, hE, below_setCell _⟩
  | false =>
    cases c with
    | true =>
      go_enter Tryz.func233, Tryz.ntmps233
      go_wp2_with (first
        | (go_at_call 241; refine (hc _).mono ?_; rintro e w1 ⟨rfl, rfl⟩))
      go_ret
      exact ⟨rfl, hE, below_setCell _⟩
    | false =>
      go_enter Tryz.func233, Tryz.ntmps233
      go_wp2_with (first
        | (go_at_call 241; refine (hc _).mono ?_; rintro e w1 ⟨rfl, rfl⟩))
      go_ret
      exact ⟨rfl, hE, below_setCell _⟩
end Go.Proofs.YtddbjcfdmdbmkaaGreatDoor

namespace Go.Proofs.YtddbjcfdmdbmkaaGreatDoor
open Go.RowKit

def stkBP (bz : Bool) (l : Int) (s : ByteArray) (r : Int) : Int × Bool :=
  if s.toList == [43] then (wrap64 (l + r), bz)
  else if s.toList == [45] then (wrap64 (l - r), bz)
  else if s.toList == [42] then (wrap64 (l * r), bz)
  else if s.toList == [47] then (if r = 0 then (0, true) else (wrap64 (l.tdiv r), bz))
  else if s.toList == [97, 110, 100] then (bits BinOp.and .i64 l r, bz)
  else if s.toList == [111, 114] then (bits BinOp.or .i64 l r, bz)
  else (tstP bz l s r, false)
def divP (bz : Bool) (l r : Int) : Int × Bool := if r = 0 then (0, true) else (wrap64 (l.tdiv r), bz)
set_option maxRecDepth 100000 in
set_option maxHeartbeats 1600000 in
theorem stkDiv_p {w : World} {B : Nat} {av itv : Value} {st : List Int} {bz : Bool} (h : Stk w B av itv st bz) (l r : Int) :
    Calls Tryz.prog 232 #[.pointer (some ⟨B, 0, none⟩), .int .i64 l, .int .i64 r] w fun e w' => e = .returned (.int .i64 (divP bz l r).1) ∧ Stk w' B av itv st (divP bz l r).2 ∧ Below B w w' := by
  unfold divP
  by_cases hr : r = 0
  · subst hr
    have hE := h.zero true
    obtain ⟨nv, hb, hrow⟩ := h
    have c3 := hb.cell 3; have f3 := hb.frozen 3; have hl := hb.lt
    simp at c3
    go_enter Tryz.func232, Tryz.ntmps232
    go_wp2
    go_ret
    exact ⟨rfl, hE, below_setCell _⟩
  · have hr' : (r == 0) = false := by simpa using hr
    rw [if_neg hr]
    go_enter Tryz.func232, Tryz.ntmps232
    go_wp2
    go_ret
    exact ⟨rfl, h, Below.refl _ _⟩
set_option maxRecDepth 100000 in
set_option maxHeartbeats 3200000 in
theorem stkBoth_p {w : World} {B : Nat} {av itv : Value} {st : List Int} {bz : Bool} (h : Stk w B av itv st bz) (l r : Int) (s : ByteArray) :
    Calls Tryz.prog 213 #[.pointer (some ⟨B, 0, none⟩), .int .i64 l, .string s, .int .i64 r] w fun e w' => e = .returned (.int .i64 (stkBP bz l s r).1) ∧ Stk w' B av itv st (stkBP bz l s r).2 ∧ Below B w w' := by
  have ht := stkTest_p h l r s
  have hd := stkDiv_p h l r
  have hS := h
  clear h
  cases h1 : s.toList == [43] with
  | true =>
    rw [show stkBP bz l s r = (wrap64 (l + r), bz) by simp [stkBP, divP, h1]]
    go_enter Tryz.func213, Tryz.ntmps213
    go_wp2
    go_ret
    exact ⟨rfl, hS, Below.refl _ _⟩
  | false =>
  cases h2 : s.toList == [45] with
  | true =>
    rw [show stkBP bz l s r = (wrap64 (l - r), bz) by simp [stkBP, divP, h1, h2]]
    go_enter Tryz.func213, Tryz.ntmps213
    go_wp2
    go_ret
    exact ⟨rfl, hS, Below.refl _ _⟩
  | false =>
  cases h3 : s.toList == [42] with
  | true =>
    rw [show stkBP bz l s r = (wrap64 (l * r), bz) by simp [stkBP, divP, h1, h2, h3]]
    go_enter Tryz.func213, Tryz.ntmps213
    go_wp2
    go_ret
    exact ⟨rfl, hS, Below.refl _ _⟩
  | false =>
  cases h4 : s.toList == [47] with
  | true =>
    rw [show stkBP bz l s r = divP bz l r by simp [stkBP, divP, h1, h2, h3, h4]]
    generalize divP bz l r = d at *
    go_enter Tryz.func213, Tryz.ntmps213
    go_wp2_with (go_at_call 232; refine hd.mono ?_; rintro e w1 ⟨rfl, hS2, hb2⟩)
    go_ret
    exact ⟨rfl, hS2, hb2⟩
  | false =>
  cases h5 : s.toList == [97, 110, 100] with
  | true =>
    rw [show stkBP bz l s r = (bits BinOp.and .i64 l r, bz) by simp [stkBP, divP, h1, h2, h3, h4, h5]]
    go_enter Tryz.func213, Tryz.ntmps213
    go_wp2
    go_ret
    exact ⟨rfl, hS, Below.refl _ _⟩
  | false =>
  cases h6 : s.toList == [111, 114] with
  | true =>
    rw [show stkBP bz l s r = (bits BinOp.or .i64 l r, bz) by simp [stkBP, divP, h1, h2, h3, h4, h5, h6]]
    go_enter Tryz.func213, Tryz.ntmps213
    go_wp2
    go_ret
    exact ⟨rfl, hS, Below.refl _ _⟩
  | false =>
    rw [show stkBP bz l s r = (tstP bz l s r, false) by simp [stkBP, h1, h2, h3, h4, h5, h6]]
    generalize tstP bz l s r = d at *
    go_enter Tryz.func213, Tryz.ntmps213
    go_wp2_with (go_at_call 233; refine ht.mono ?_; rintro e w1 ⟨rfl, hS2, hb2⟩)
    go_ret
    exact ⟨rfl, hS2, hb2⟩
theorem row_pop {w : World} {base : Nat} {e : TypeId} {g cap n : Nat} {xs : List Value} {x : Value} (h : w.ownsRow base e 1 (.slice (some ⟨g, 0, none⟩) (n + 1) cap) (n + 1) (xs ++ [x])) : w.ownsRow base e 1 (.slice (some ⟨g, 0, none⟩) n cap) n xs := by
  obtain ⟨h1, h2⟩ := h
  have hl : xs.length = n * 1 := by rw [List.length_append] at h1; simp at h1; omega
  refine ⟨hl, ?_⟩
  rcases h2 with ⟨h, _⟩ | ⟨g', cap', cur, he, hb, hg, hn, hcm, hcs, htake⟩
  · cases h
  · cases he
    refine .inr ⟨_, _, cur, rfl, hb, hg, by omega, hcm, hcs, ?_⟩
    have e1 : cur.toList.take (n * 1) = (cur.toList.take ((n + 1) * 1)).take (n * 1) := by rw [List.take_take, Nat.min_eq_left (by omega)]
    rw [e1, htake, ← hl, List.take_left]
set_option maxRecDepth 100000 in
set_option maxHeartbeats 1600000 in
theorem stkPop_p {w : World} {B : Nat} {av itv : Value} {st : List Int} {n : Int} {bz : Bool} (h : Stk w B av itv (st ++ [n]) bz) (hl : st.length ≤ 1000000) :
    Calls Tryz.prog 184 #[.pointer (some ⟨B, 0, none⟩)] w fun e w' => e = .returned (.int .i64 n) ∧ Stk w' B av itv st bz ∧ Below B w w' ∧ ∀ k, k ≠ B → w'.heap[k]? = w.heap[k]? := by
  obtain ⟨nv, hb, hrow⟩ := h
  rw [List.length_append, List.map_append] at hrow
  obtain ⟨g, cap, rfl⟩ : ∃ g cap, nv = .slice (some ⟨g, 0, none⟩) (st.length + 1) cap := by
    rcases hrow.2 with ⟨_, h0⟩ | ⟨g, cap, cur, h, _⟩
    · simp at h0
    · exact ⟨g, cap, h⟩
  have hcap : st.length + 1 ≤ cap := by
    rcases hrow.2 with ⟨h, _⟩ | ⟨g', cap', cur, h, _, _, hn, _⟩
    · cases h
    · cases h; exact hn
  have hlast := hrow.cells (g := g) rfl st.length (.int .i64 n) (by simp)
  rw [addr_add, Nat.zero_add] at hlast
  have hgl := (hrow.lt g rfl).2
  have hp := row_pop hrow
  have hne : (Value.slice (some ⟨g, 0, none⟩) (st.length + 1) cap).ownBlock ≠ some B := blk_apart hb hrow (by decide)
  have c2 := hb.cell 2; have f2 := hb.frozen 2; have hlt := hb.lt
  simp at c2
  have hE : Stk (w.setCell ⟨B, 2, none⟩ (.slice (some ⟨g, 0, none⟩) st.length cap)) B av itv st bz := ⟨_, by simpa using hb.set 2 (.slice (some ⟨g, 0, none⟩) st.length cap), row_of_blk hp fun z hz => (grownBy_setCell w ⟨B, 2, none⟩ _).block z (hp.lt z hz).2 (fun e => by simp at e; subst e; exact hne hz)⟩
  have e1 : ((st.length + 1 : Nat) : Int) - 1 = (st.length : Int) := by omega
  have i0 : (0 : Int) ≤ (st.length : Int) := by omega
  have i1 : (st.length : Int) < (st.length : Int) + 1 := by omega
  have i2 : (st.length : Int) ≤ (cap : Int) := by omega
  clear hrow hp
  go_enter Tryz.func184, Tryz.ntmps184
  go_wp2
  go_ret
  exact ⟨rfl, hE, below_setCell _, fun k hk => Below.heap_setCell _ _ _ _ (fun e => hk (by simp at e; omega))⟩
set_option maxRecDepth 100000 in
set_option maxHeartbeats 1600000 in
theorem stkPush_p {w : World} {B : Nat} {av itv : Value} {st : List Int} {bz : Bool} (h : Stk w B av itv st bz) (hl : st.length ≤ 1000000) (n : Int) :
    Calls Tryz.prog 211 #[.pointer (some ⟨B, 0, none⟩), .int .i64 n] w fun e w' => e = .returned (.tuple #[]) ∧ Stk w' B av itv (st ++ [n]) bz ∧ Below B w w' := by
  obtain ⟨i0, hi0, hz0, hz1, hz2⟩ := info_parts Tryz.infoIntF
  obtain ⟨nv, hb, hrow⟩ := h
  obtain ⟨na, nb, nc, rfl⟩ := row_form hrow
  have c2 := hb.cell 2; have f2 := hb.frozen 2; have hlt := hb.lt
  simp at c2
  go_enter Tryz.func211, Tryz.ntmps211
  go_wp2_with (at_builtin; refine wpList_append_lies _ rfl _ _ 48 rfl B 3 i0 _ 1 8 Tryz.underlying48 hi0 hz0 hz1 hz2 rfl (by decide) _ st.length (st.map (Value.int .i64)) (by rfl) (hrow.alloc _) ⟨w.heap.size, 0, none⟩ 1 1 [.int .i64 n] (by rfl) rfl (World.news_of_block (alloc_at _ _ _ (by simp))) (by simp [Value.oneCell']) (by decide) (by unfold maxLen; omega) (by omega) (by simp; omega) (w.heap.size + 1) (by simp) ?_; intro g7 cap7 w7 hown7 hgrow7 hat7 hlt7; have hX7 := (hb.alloc (.cells #[.int .i64 n] 3)).of_eq (hgrow7.block B (by simp; omega) (fun e => blk_apart hb hrow (by decide) e.symm)); have u2 := hX7.cell 2; have uf := hX7.frozen 2; have hXl7 := hX7.lt; simp at u2)
  have hE : Stk (w7.setCell ⟨B, 2, none⟩ (.slice (some ⟨g7, 0, none⟩) (st.length + 1) cap7)) B av itv (st ++ [n]) bz := by
    refine ⟨_, by simpa using hX7.set 2 (.slice (some ⟨g7, 0, none⟩) (st.length + 1) cap7), ?_⟩
    rw [List.length_append, List.map_append]
    exact row_of_blk hown7 fun z hz => (grownBy_setCell w7 ⟨B, 2, none⟩ _).block z (hown7.lt z hz).2 (fun e => by simp at e; subst e; exact blk_apart hX7 hown7 (by decide) hz)
  have hbel : Below B w (w7.setCell ⟨B, 2, none⟩ (.slice (some ⟨g7, 0, none⟩) (st.length + 1) cap7)) := (((Below.refl B w).alloc (by omega) _).grown hgrow7 (by simp; omega) (fun z hz => (hrow.lt z hz).1)).setCell (p := ⟨B, 2, none⟩) (Nat.le_refl _) _
  first
  | (go_end0; exact ⟨rfl, hE, hbel⟩)
  | (go_wp2; go_end0; exact ⟨rfl, hE, hbel⟩)
end Go.Proofs.YtddbjcfdmdbmkaaGreatDoor

namespace Go.Proofs.YtddbjcfdmdbmkaaGreatDoor
open Go.RowKit

def SeenAt (w : World) (p : Nat) (e : Ev) (n : Nat) : Prop := Blk w p #[.int .i64 e.time, .int .i64 e.kind, .int .i64 e.a, .int .i64 e.b, .int .i64 e.c, .int .i64 n] 158
def Ahead (w : World) (av : Value) (ps : List Nat) : Prop := ∃ a c, av = .slice a ps.length c ∧ (0 < ps.length → ∃ g, a = some ⟨g, 0, none⟩ ∧ g < w.heap.size ∧ ∀ i, (h : i < ps.length) → w.cell? ⟨g, i, none⟩ = some (.pointer (some ⟨ps[i], 0, none⟩)))
structure Ctx (w : World) (B : Nat) (av : Value) (ps : List Nat) (es : List Ev) (ip : Nat) (it : Ev) : Prop where
  len : ps.length = es.length
  small : ps.length ≤ 1000000
  ah : ∃ a c, av = .slice a ps.length c ∧ (0 < ps.length → ∃ g, a = some ⟨g, 0, none⟩ ∧ g < B ∧ ∀ i, (h : i < ps.length) → w.cell? ⟨g, i, none⟩ = some (.pointer (some ⟨ps[i], 0, none⟩)))
  ev : ∀ i, (h : i < ps.length) → (h' : i < es.length) → ps[i] < B ∧ ∃ n, SeenAt w ps[i] es[i] n
  it : ip < B ∧ ∃ n, SeenAt w ip it n
theorem Ctx.keep {w w' : World} {B : Nat} {av : Value} {ps : List Nat} {es : List Ev} {ip : Nat} {it : Ev} (h : Ctx w B av ps es ip it) (hb : Below B w w') : Ctx w' B av ps es ip it := by
  refine ⟨h.len, h.small, ?_, fun i a b => ?_, ?_⟩
  · obtain ⟨a, c, e, hc⟩ := h.ah
    refine ⟨a, c, e, fun h0 => ?_⟩
    obtain ⟨g, e1, e2, e3⟩ := hc h0
    exact ⟨g, e1, e2, fun i hi => (hb.cell (p := ⟨g, i, none⟩) e2).trans (e3 i hi)⟩
  · obtain ⟨h1, n, h2⟩ := h.ev i a b
    exact ⟨h1, n, Blk.of_eq h2 (hb.block _ h1)⟩
  · obtain ⟨h1, n, h2⟩ := h.it
    exact ⟨h1, n, Blk.of_eq h2 (hb.block _ h1)⟩
def evP (es : List Ev) (it : Ev) (k : Nat) : Ev := if k < es.length then es.getD k default else it
def evB (ps : List Nat) (ip : Nat) (k : Nat) : Nat := if k < ps.length then ps.getD k 0 else ip
theorem Ctx.at {w : World} {B : Nat} {av : Value} {ps : List Nat} {es : List Ev} {ip : Nat} {it : Ev} (h : Ctx w B av ps es ip it) (k : Nat) : evB ps ip k < B ∧ ∃ n, SeenAt w (evB ps ip k) (evP es it k) n := by
  unfold evB evP
  have hl := h.len
  by_cases hk : k < ps.length
  · rw [if_pos hk, if_pos (by omega)]
    have := h.ev k hk (by omega)
    simpa [List.getD, hk, show k < es.length by omega] using this
  · rw [if_neg hk, if_neg (by omega)]; exact h.it
set_option maxRecDepth 100000 in
set_option maxHeartbeats 1600000 in
theorem event_p {w : World} {B : Nat} {av : Value} {ps : List Nat} {es : List Ev} {ip : Nat} {it : Ev} {st : List Int} {bz : Bool} (h : Stk w B av (.pointer (some ⟨ip, 0, none⟩)) st bz) (hC : Ctx w B av ps es ip it) (k : Nat) :
    Calls Tryz.prog 212 #[.pointer (some ⟨B, 0, none⟩), .int .i64 k] w fun e w' => e = .returned (.pointer (some ⟨evB ps ip k, 0, none⟩)) ∧ w' = w := by
  obtain ⟨nv, hb, _⟩ := h
  obtain ⟨a, c, rfl, hcell⟩ := hC.ah
  have c0 := hb.cell 0; have c1 := hb.cell 1; have hl := hb.lt
  simp at c0 c1
  unfold evB
  by_cases hk : k < ps.length
  · obtain ⟨g, rfl, hg, hc⟩ := hcell (by omega)
    have hck := hc k hk
    clear hc hcell
    have hge : ps.getD k 0 = ps[k] := by simp [List.getD, hk]
    rw [if_pos hk, hge]
    generalize ps[k] = z at *
    have h0 : (0 : Int) ≤ (k : Int) := by omega
    have h1 : (k : Int) < (ps.length : Int) := by omega
    have hg2 : g < w.heap.size := by omega
    go_enter Tryz.func212, Tryz.ntmps212
    go_wp2
    go_ret
    exact ⟨rfl, rfl⟩
  · rw [if_neg hk]
    have h1 : (ps.length : Int) ≤ (k : Int) := by omega
    clear hcell
    go_enter Tryz.func212, Tryz.ntmps212
    go_wp2
    go_ret
    exact ⟨rfl, rfl⟩
def doP (es : List Ev) (it : Ev) (s : List Int × Bool) (o : ByteArray × Nat) : List Int × Bool :=
  if o.1.toList == [112, 117, 115, 104] then (s.1 ++ [(o.2 : Int)], s.2)
  else if o.1.toList == [97] then (s.1 ++ [(evP es it o.2).a], s.2)
  else if o.1.toList == [98] then (s.1 ++ [(evP es it o.2).b], s.2)
  else if o.1.toList == [99] then (s.1 ++ [(evP es it o.2).c], s.2)
  else if o.1.toList == [116] then (s.1 ++ [(evP es it o.2).time], s.2)
  else if o.1.toList == [111, 112, 112, 111, 115, 105, 116, 101] then (s.1.dropLast ++ [wrap64 (-(s.1.getLastD 0))], s.2)
  else (s.1.dropLast.dropLast ++ [(stkBP s.2 (s.1.dropLast.getLastD 0) o.1 (s.1.getLastD 0)).1], (stkBP s.2 (s.1.dropLast.getLastD 0) o.1 (s.1.getLastD 0)).2)
def arityP (o : ByteArray × Nat) : Nat :=
  if o.1.toList == [112, 117, 115, 104] || o.1.toList == [97] || o.1.toList == [98] || o.1.toList == [99] || o.1.toList == [116] then 0
  else if o.1.toList == [111, 112, 112, 111, 115, 105, 116, 101] then 1 else 2
theorem last_split {l : List Int} (h : 1 ≤ l.length) : l = l.dropLast ++ [l.getLastD 0] := by
  have hne : l ≠ [] := by intro e; rw [e] at h; simp at h
  rw [List.getLastD_eq_getLast?, List.getLast?_eq_some_getLast hne]
  exact (List.dropLast_concat_getLast hne).symm
set_option maxRecDepth 100000 in
set_option maxHeartbeats 3200000 in
theorem do_p {w : World} {B : Nat} {av : Value} {ps : List Nat} {es : List Ev} {ip : Nat} {it : Ev} {st : List Int} {bz : Bool} (h : Stk w B av (.pointer (some ⟨ip, 0, none⟩)) st bz) (hC : Ctx w B av ps es ip it) (hl : st.length ≤ 100000) (o : ByteArray × Nat) (ha : arityP o ≤ st.length) :
    Calls Tryz.prog 183 #[.pointer (some ⟨B, 0, none⟩), .agg #[.string o.1, .int .i64 o.2]] w fun e w' => e = .returned (.tuple #[]) ∧ Stk w' B av (.pointer (some ⟨ip, 0, none⟩)) (doP es it (st, bz) o).1 (doP es it (st, bz) o).2 ∧ Below B w w' := by
  obtain ⟨act, num⟩ := o
  simp only at ha ⊢
  have hBl := h.lt
  have h1 := h.alloc (.cells #[.string act, .int .i64 num] 245)
  have hC1 := hC.keep ((Below.refl B w).alloc (Nat.le_of_lt hBl) (.cells #[.string act, .int .i64 num] 245))
  have hb0 : Below B w (w.alloc (.cells #[.string act, .int .i64 num] 245)) := (Below.refl B w).alloc (Nat.le_of_lt hBl) _
  have hev := event_p h1 hC1 num
  obtain ⟨hz, sn, hs⟩ := hC1.at num
  have s0 := hs.cell 0; have s2 := hs.cell 2; have s3 := hs.cell 3; have s4 := hs.cell 4; have hsl := hs.lt
  simp at s0 s2 s3 s4
  have hpush := fun n => stkPush_p h1 (by omega) n
  cases x1 : act.toList == [112, 117, 115, 104] with
  | true =>
    rw [show doP es it (st, bz) (act, num) = (st ++ [(num : Int)], bz) by simp [doP, x1]]
    have hp := hpush (num : Int)
    go_enter Tryz.func183, Tryz.ntmps183
    go_wp2_with (go_at_call 211; refine hp.mono ?_; rintro e w1 ⟨rfl, hS, hb⟩)
    go_end0
    exact ⟨rfl, hS, hb0.trans hb⟩
  | false =>
  cases x2 : act.toList == [97] with
  | true =>
    rw [show doP es it (st, bz) (act, num) = (st ++ [(evP es it num).a], bz) by simp [doP, x1, x2]]
    have hp := hpush (evP es it num).a
    generalize (evP es it num).a = fv at *
    generalize evB ps ip num = z at *
    go_enter Tryz.func183, Tryz.ntmps183
    go_wp2_with (first
      | (go_at_call 212; refine hev.mono ?_; rintro e w1 ⟨rfl, rfl⟩)
      | (go_at_call 211; refine hp.mono ?_; rintro e w1 ⟨rfl, hS, hb⟩))
    go_end0
    exact ⟨rfl, hS, hb0.trans hb⟩
  | false =>
  cases x3 : act.toList == [98] with
  | true =>
    rw [show doP es it (st, bz) (act, num) = (st ++ [(evP es it num).b], bz) by simp [doP, x1, x2, x3]]
    have hp := hpush (evP es it num).b
    generalize (evP es it num).b = fv at *
    generalize evB ps ip num = z at *
    go_enter Tryz.func183, Tryz.ntmps183
    go_wp2_with (first
      | (go_at_call 212; refine hev.mono ?_; rintro e w1 ⟨rfl, rfl⟩)
      | (go_at_call 211; refine hp.mono ?_; rintro e w1 ⟨rfl, hS, hb⟩))
    go_end0
    exact ⟨rfl, hS, hb0.trans hb⟩
  | false =>
  cases x4 : act.toList == [99] with
  | true =>
    rw [show doP es it (st, bz) (act, num) = (st ++ [(evP es it num).c], bz) by simp [doP, x1, x2, x3, x4]]
    have hp := hpush (evP es it num).c
    generalize (evP es it num).c = fv at *
    generalize evB ps ip num = z at *
    go_enter Tryz.func183, Tryz.ntmps183
    go_wp2_with (first
      | (go_at_call 212; refine hev.mono ?_; rintro e w1 ⟨rfl, rfl⟩)
      | (go_at_call 211; refine hp.mono ?_; rintro e w1 ⟨rfl, hS, hb⟩))
    go_end0
    exact ⟨rfl, hS, hb0.trans hb⟩
  | false =>
  cases x5 : act.toList == [116] with
  | true =>
    rw [show doP es it (st, bz) (act, num) = (st ++ [(evP es it num).time], bz) by simp [doP, x1, x2, x3, x4, x5]]
    have hp := hpush (evP es it num).time
    generalize (evP es it num).time = fv at *
    generalize evB ps ip num = z at *
    go_enter Tryz.func183, Tryz.ntmps183
    go_wp2_with (first
      | (go_at_call 212; refine hev.mono ?_; rintro e w1 ⟨rfl, rfl⟩)
      | (go_at_call 211; refine hp.mono ?_; rintro e w1 ⟨rfl, hS, hb⟩))
    go_end0
    exact ⟨rfl, hS, hb0.trans hb⟩
  | false =>
  clear hev hs s0 s2 s3 s4 hsl hpush
  cases x6 : act.toList == [111, 112, 112, 111, 115, 105, 116, 101] with
  | true =>
    rw [show doP es it (st, bz) (act, num) = (st.dropLast ++ [wrap64 (-(st.getLastD 0))], bz) by simp [doP, x1, x2, x3, x4, x5, x6]]
    have h1l : 1 ≤ st.length := by simpa [arityP, x1, x2, x3, x4, x5, x6] using ha
    have hsp := last_split h1l
    have hdl : st.dropLast.length ≤ 100000 := by rw [List.length_dropLast]; omega
    generalize st.dropLast = sd at *
    generalize st.getLastD 0 = n at *
    rw [hsp] at h1
    have hpop := stkPop_p h1 (by omega)
    clear h1 h hsp ha hl h1l
    go_enter Tryz.func183, Tryz.ntmps183
    go_wp2_with (first
      | (go_at_call 184; refine hpop.mono ?_; rintro e w1 ⟨rfl, hS1, hb1, _⟩)
      | (go_at_call 211; refine (stkPush_p hS1 (by omega) _).mono ?_; rintro e w2 ⟨rfl, hS, hb⟩))
    go_end0
    exact ⟨rfl, hS, (hb0.trans hb1).trans hb⟩
  | false =>
    rw [show doP es it (st, bz) (act, num) = (st.dropLast.dropLast ++ [(stkBP bz (st.dropLast.getLastD 0) act (st.getLastD 0)).1], (stkBP bz (st.dropLast.getLastD 0) act (st.getLastD 0)).2) by simp [doP, x1, x2, x3, x4, x5, x6]]
    have h2l : 2 ≤ st.length := by simpa [arityP, x1, x2, x3, x4, x5, x6] using ha
    have hsp := last_split (show 1 ≤ st.length by omega)
    have hsp2 := last_split (show 1 ≤ st.dropLast.length by rw [List.length_dropLast]; omega)
    have hdl : st.dropLast.dropLast.length ≤ 100000 := by rw [List.length_dropLast, List.length_dropLast]; omega
    have hdl2 : st.dropLast.length ≤ 100000 := by rw [List.length_dropLast]; omega
    generalize st.getLastD 0 = r at *
    rw [hsp] at h1
    generalize st.dropLast = sd at *
    generalize sd.getLastD 0 = l at *
    have hpop := stkPop_p h1 (by omega)
    generalize hdd : sd.dropLast = sdd at *
    have hNew := Blk.new w #[.string act, .int .i64 num] 245
    clear h1 h hsp ha hl h2l
    rw [hsp2] at hpop
    go_enter Tryz.func183, Tryz.ntmps183
    go_wp2_with (first
      | (go_at_call 184; refine hpop.mono ?_; rintro e w1 ⟨rfl, hS1, hb1, hk1⟩; clear hpop; have hpop2 := stkPop_p hS1 (by omega))
      | (go_at_call 184; refine hpop2.mono ?_; rintro e w2 ⟨rfl, hS2, hb2, hk2⟩; have hN2 : Blk w2 w.heap.size #[.string act, .int .i64 num] 245 := (hNew.of_eq (hk1 _ (by omega))).of_eq (hk2 _ (by omega)); have n0 := hN2.cell 0; have nl := hN2.lt; simp at n0)
      | (go_at_call 213; refine (stkBoth_p hS2 l r act).mono ?_; rintro e w3 ⟨rfl, hS3, hb3⟩)
      | (go_at_call 211; refine (stkPush_p hS3 (by omega) _).mono ?_; rintro e w4 ⟨rfl, hS, hb⟩))
    go_end0
    exact ⟨rfl, hS, (((hb0.trans hb1).trans hb2).trans hb3).trans hb⟩
end Go.Proofs.YtddbjcfdmdbmkaaGreatDoor

namespace Go.Proofs.YtddbjcfdmdbmkaaGreatDoor
open Go.RowKit

def runP (es : List Ev) (it : Ev) (ops : List (ByteArray × Nat)) (k : Nat) : List Int × Bool := (ops.take k).foldl (doP es it) ([], false)
theorem runP_succ (es : List Ev) (it : Ev) (ops : List (ByteArray × Nat)) (k : Nat) (h : k < ops.length) : runP es it ops (k + 1) = doP es it (runP es it ops k) ops[k] := by
  unfold runP; rw [List.take_succ_eq_append_getElem h, List.foldl_append]; rfl
theorem doP_len (es : List Ev) (it : Ev) (s : List Int × Bool) (o : ByteArray × Nat) : (doP es it s o).1.length ≤ s.1.length + 1 := by
  unfold doP
  repeat' split
  all_goals simp
  all_goals try omega
theorem runP_len (es : List Ev) (it : Ev) (ops : List (ByteArray × Nat)) : ∀ k, k ≤ ops.length → (runP es it ops k).1.length ≤ k := by
  intro k
  induction k with
  | zero => intro _; simp [runP]
  | succ k ih =>
    intro h
    rw [runP_succ es it ops k (by omega)]
    have := doP_len es it (runP es it ops k) ops[k]
    have := ih (by omega)
    omega
def holdsP (ops : List (ByteArray × Nat)) (es : List Ev) (it : Ev) : Bool := if ops.length = 0 then true else (runP es it ops ops.length).1.getLastD 0 == 1
structure WellRun (ops : List (ByteArray × Nat)) : Prop where
  small : ops.length ≤ 10000
  enough : ∀ es it k, (h : k < ops.length) → arityP ops[k] ≤ (runP es it ops k).1.length
  one : ∀ es it, 0 < ops.length → 1 ≤ (runP es it ops ops.length).1.length
theorem CondS.at {S : Nat → Prop} {w : World} {v : Value} {ops : List (ByteArray × Nat)} (h : CondS S w v ops) : ∃ a c, v = .slice a ops.length c ∧ (0 < ops.length → ∃ g, a = some ⟨g, 0, none⟩ ∧ g < w.heap.size ∧ ∀ k, (hk : k < ops.length) → w.cell? ⟨g, k * 2, none⟩ = some (.string ops[k].1) ∧ w.cell? ⟨g, k * 2 + 1, none⟩ = some (.int .i64 ops[k].2)) := by
  obtain ⟨hrow, _⟩ := h
  rcases hrow.2 with ⟨rfl, h0⟩ | ⟨g, cap, cur, rfl, _, hg, _⟩
  · exact ⟨none, 0, by rw [h0], fun h => by omega⟩
  · refine ⟨_, _, rfl, fun _ => ⟨g, rfl, (Array.getElem?_eq_some_iff.1 hg).1, fun k hk => ?_⟩⟩
    have key : ∀ i, i < 2 → ∀ u, (bcells ops[k])[i]? = some u → w.cell? ⟨g, k * 2 + i, none⟩ = some u := by
      intro i hi u hu
      have := hrow.cells (g := g) rfl (k * 2 + i) u (by rw [flat_get bcells 2 (fun _ => rfl) _ _ _ hk hi]; exact hu)
      rw [addr_add, Nat.zero_add] at this; exact this
    exact ⟨key 0 (by decide) _ rfl, key 1 (by decide) _ rfl⟩
set_option maxRecDepth 100000 in
set_option maxHeartbeats 1600000 in
theorem holds_p {S : Nat → Prop} {w : World} {cv av : Value} {ops : List (ByteArray × Nat)} {ps : List Nat} {es : List Ev} {ip : Nat} {it : Ev} (hc : CondS S w cv ops) (hW : WellRun ops) (hC : Ctx w w.heap.size av ps es ip it) :
    Calls Tryz.prog 155 #[cv, av, .pointer (some ⟨ip, 0, none⟩)] w fun e w' => e = .returned (.bool (holdsP ops es it)) ∧ Below w.heap.size w w' := by
  obtain ⟨a, c, rfl, hcell⟩ := hc.at
  obtain ⟨aa, ac, rfl, _⟩ := hC.ah
  have hsm := hW.small
  unfold holdsP
  by_cases h0 : ops.length = 0
  · rw [if_pos h0]
    have h0' : ((ops.length : Int) == 0) = true := by simp [h0]
    go_enter Tryz.func155, Tryz.ntmps155
    go_wp2
    go_ret
    exact ⟨rfl, Below.refl _ _⟩
  · rw [if_neg h0]
    have h0' : ((ops.length : Int) == 0) = false := by rw [beq_eq_false_iff_ne]; omega
    obtain ⟨g, rfl, hg, hcl⟩ := hcell (by omega)
    have hone := hW.one es it (by omega)
    obtain ⟨fv, hfv⟩ : ∃ fv, (runP es it ops ops.length).1.getLastD 0 = fv := ⟨_, rfl⟩
    rw [hfv]
    have HFv : Hid ((runP es it ops ops.length).1.getLastD 0 = fv) := hfv
    clear hfv
    have hlen := runP_len es it ops
    have hen := hW.enough es it
    have hB0 : Stk (w.alloc (.cells #[.slice aa ps.length ac, .pointer (some ⟨ip, 0, none⟩), .slice none 0 0, .bool false] 283)) w.heap.size (.slice aa ps.length ac) (.pointer (some ⟨ip, 0, none⟩)) [] false := ⟨_, Blk.new w _ _, World.ownsRow_nil _ _ _ _⟩
    clear hcell hc
    go_enter Tryz.func155, Tryz.ntmps155
    go_wp2
    go_loopw [18] (fun i wr => ∃ k : Nat, k ≤ ops.length ∧ i = .int .i64 k ∧ Stk wr w.heap.size (.slice aa ps.length ac) (.pointer (some ⟨ip, 0, none⟩)) (runP es it ops k).1 (runP es it ops k).2 ∧ Below w.heap.size w wr) (fun i _ => ops.length - (intOf i).toNat)
    case atStart => exact ⟨0, Nat.zero_le _, rfl, hB0, (Below.refl _ w).alloc (Nat.le_refl _) _⟩
    case round =>
      obtain ⟨k, hk, rfl, hS, hbel⟩ := hrel
      clear hB0
      have hsl := hS.lt
      by_cases hlt : k < ops.length
      · obtain ⟨c0, c1⟩ := hcl k hlt
        have d0 := (hbel.cell (p := ⟨g, k * 2, none⟩) hg).trans c0
        have d1 := (hbel.cell (p := ⟨g, k * 2 + 1, none⟩) hg).trans c1
        have har := hen k hlt
        have hrl := hlen k hk
        have HR : Hid (runP es it ops (k + 1) = doP es it (runP es it ops k) ops[k]) := runP_succ es it ops k hlt
        generalize ops[k] = o at *
        have hki : (k : Int) < (ops.length : Int) := by omega
        have hk0 : (0 : Int) ≤ (k : Int) := by omega
        have hgl : g < wr.heap.size := Nat.lt_of_lt_of_le hg hbel.size
        have hC2 := (hC.keep hbel).keep ((Below.refl w.heap.size wr).alloc (Nat.le_of_lt hsl) (.cells #[.string o.1, .int .i64 o.2] 245))
        have hdo := do_p (hS.alloc (.cells #[.string o.1, .int .i64 o.2] 245)) hC2 (by omega) o har
        obtain ⟨act, num⟩ := o
        generalize runP es it ops k = rk at *
        clear c0 c1 hcl hC2
        go_wp2_with (go_at_call 183; refine hdo.mono ?_; rintro e w1 ⟨rfl, hS1, hb1⟩)
        go_roundw
        case rel => exact ⟨k + 1, hlt, by go_num, by rw [HR.out]; exact hS1, (hbel.alloc hbel.size _).trans hb1⟩
        case measure => simp [intOf]; omega
      · have e : k = ops.length := by omega
        subst e
        have hrl := hlen ops.length (Nat.le_refl _)
        have hsp := last_split hone
        rw [HFv.out] at hsp
        generalize runP es it ops ops.length = r at *
        have hdl : r.1.dropLast.length ≤ 1000000 := by rw [List.length_dropLast]; omega
        rw [hsp] at hS
        have hpop := stkPop_p hS hdl
        clear hS hsp hcl hen hlen
        go_wp2_with (go_at_call 184; refine hpop.mono ?_; rintro e w1 ⟨rfl, hS1, hb1, _⟩)
        go_ret
        exact ⟨rfl, hbel.trans hb1⟩
theorem Ctx.up {w : World} {B B' : Nat} {av : Value} {ps : List Nat} {es : List Ev} {ip : Nat} {it : Ev} (h : Ctx w B av ps es ip it) (hB : B ≤ B') : Ctx w B' av ps es ip it := by
  refine ⟨h.len, h.small, ?_, fun i x y => ⟨Nat.lt_of_lt_of_le (h.ev i x y).1 hB, (h.ev i x y).2⟩, ⟨Nat.lt_of_lt_of_le h.it.1 hB, h.it.2⟩⟩
  obtain ⟨p, q, e1, e2⟩ := h.ah
  exact ⟨p, q, e1, fun h0 => by obtain ⟨g, f1, f2, f3⟩ := e2 h0; exact ⟨g, f1, Nat.lt_of_lt_of_le f2 hB, f3⟩⟩
set_option maxRecDepth 100000 in
set_option maxHeartbeats 1600000 in
theorem fits_p {S : Nat → Prop} {w : World} {cv av : Value} {k : Nat} {ops : List (ByteArray × Nat)} {ps : List Nat} {es : List Ev} {ip : Nat} {it : Ev} (hc : CondS S w cv ops) (hW : WellRun ops) (hC : Ctx w w.heap.size av ps es ip it) :
    Calls Tryz.prog 115 #[.agg #[.int .i64 k, cv], av, .pointer (some ⟨ip, 0, none⟩)] w fun e w' => e = .returned (.bool (decide (it.kind = k) && holdsP ops es it)) ∧ Below w.heap.size w w' := by
  obtain ⟨a, c, rfl, _⟩ := hc.at
  obtain ⟨aa, ac, rfl, _⟩ := hC.ah
  obtain ⟨hip, n, hs⟩ := hC.it
  have hNew := Blk.new w #[.int .i64 k, .slice a ops.length c] 194
  have hb0 : Below w.heap.size w (w.alloc (.cells #[.int .i64 k, .slice a ops.length c] 194)) := (Below.refl _ w).alloc (Nat.le_refl _) _
  have hs1 : SeenAt (w.alloc (.cells #[.int .i64 k, .slice a ops.length c] 194)) ip it n := Blk.alloc hs _
  have s1 := hs1.cell 1; have hsl := hs1.lt; have n0 := hNew.cell 0; have n1 := hNew.cell 1; have hnl := hNew.lt
  simp at s1 n0 n1
  have hcall : ∀ W, Below (w.alloc (.cells #[.int .i64 k, .slice a ops.length c] 194)).heap.size (w.alloc (.cells #[.int .i64 k, .slice a ops.length c] 194)) W → Calls Tryz.prog 155 #[.slice a ops.length c, .slice aa ps.length ac, .pointer (some ⟨ip, 0, none⟩)] W fun e w' => e = .returned (.bool (holdsP ops es it)) ∧ Below w.heap.size w w' := fun W hW1 => by
    have hbW : Below w.heap.size w W := hb0.trans (hW1.mono (by simp))
    refine (holds_p (S := S) (hc.to (fun b hb hl => ⟨hb, hbW.block b hl⟩)) hW ((hC.keep hbW).up hbW.size)).mono ?_
    rintro e w' ⟨h1, h2⟩
    exact ⟨h1, hbW.trans (h2.mono hbW.size)⟩
  generalize holdsP ops es it = hv at *
  by_cases hk : it.kind = k
  · have hk' : (it.kind == (k : Int)) = true := by simpa using hk
    rw [decide_eq_true hk, Bool.true_and]
    go_enter Tryz.func115, Tryz.ntmps115
    go_upto_region 1 with fail
    go_region_with (first
      | (go_at_call 155; refine (hcall _ (by first | exact Below.refl _ _ | exact ⟨rfl, rfl, rfl, Nat.le_refl _, fun _ _ => rfl⟩)).mono ?_; rintro e w5 ⟨rfl, hb5⟩))
    all_goals
      go_wp2
      go_ret
      exact ⟨rfl, hb5⟩
  · have hk' : (it.kind == (k : Int)) = false := by simpa using hk
    have hk2 : decide (it.kind = (k : Int)) = false := by simpa using hk
    rw [decide_eq_false hk, Bool.false_and]
    go_enter Tryz.func115, Tryz.ntmps115
    go_upto_region 1 with fail
    go_quiet (fail)
    all_goals
      go_wp2
      go_ret
      exact ⟨rfl, by first | exact hb0 | exact ⟨hb0.os, hb0.tape, hb0.output, hb0.size, hb0.block⟩⟩
end Go.Proofs.YtddbjcfdmdbmkaaGreatDoor

namespace Go.Proofs.YtddbjcfdmdbmkaaGreatDoor
open Go.RowKit

def fitsW (x : WWant) (es : List Ev) (it : Ev) : Bool := decide (it.kind = x.kind) && holdsP x.cond es it
def stepA (s : WStep) : ASt := ⟨fun es it => fitsW s.want es it, fun es it => s.guards.any fun g => fitsW g es it⟩
structure WellS (s : WStep) : Prop where
  want : WellRun s.want.cond
  guards : ∀ g ∈ s.guards, WellRun g.cond
  few : s.guards.length ≤ 100000
structure StepV (S : Nat → Prop) (w : World) (g k : Nat) (s : WStep) (cv gv : Value) : Prop where
  lt : g < w.heap.size
  c0 : w.cell? ⟨g, k * 3, none⟩ = some (.int .i64 s.want.kind)
  c1 : w.cell? ⟨g, k * 3 + 1, none⟩ = some cv
  c2 : w.cell? ⟨g, k * 3 + 2, none⟩ = some gv
  cond : CondS S w cv s.want.cond
  guards : WantsS S w gv s.guards
theorem StepsS.at {S : Nat → Prop} {w : World} {v : Value} {ss : List WStep} (h : StepsS S w v ss) : ∃ a c, v = .slice a ss.length c ∧ ∀ k, (hk : k < ss.length) → ∃ g cv gv, a = some ⟨g, 0, none⟩ ∧ StepV S w g k ss[k] cv gv := by
  obtain ⟨⟨cgs, h1, hrow, h3⟩, _⟩ := h
  rcases hrow.2 with ⟨rfl, h0⟩ | ⟨g, cap, cur, rfl, _, hg, _⟩
  · exact ⟨none, 0, by rw [h0], fun k hk => by omega⟩
  · refine ⟨_, _, rfl, fun k hk => ⟨g, cgs[k].1, cgs[k].2, rfl, ?_⟩⟩
    have hz : k < (ss.zip cgs).length := by rw [List.length_zip]; omega
    have key : ∀ i, i < 3 → ∀ u, (scells (ss.zip cgs)[k])[i]? = some u → w.cell? ⟨g, k * 3 + i, none⟩ = some u := by
      intro i hi u hu
      have := hrow.cells (g := g) rfl (k * 3 + i) u (by rw [flat_get scells 3 (fun _ => rfl) _ _ _ hz hi]; exact hu)
      rw [addr_add, Nat.zero_add] at this; exact this
    rw [List.getElem_zip] at key
    exact ⟨(Array.getElem?_eq_some_iff.1 hg).1, key 0 (by decide) _ rfl, key 1 (by decide) _ rfl, key 2 (by decide) _ rfl, (h3 k hk (by omega)).1, (h3 k hk (by omega)).2⟩
theorem StepV.keep {S : Nat → Prop} {w w' : World} {g k : Nat} {s : WStep} {cv gv : Value} (h : StepV S w g k s cv gv) (hb : Below w.heap.size w w') : StepV S w' g k s cv gv :=
  ⟨Nat.lt_of_lt_of_le h.lt hb.size, (hb.cell (p := ⟨g, k * 3, none⟩) h.lt).trans h.c0, (hb.cell (p := ⟨g, k * 3 + 1, none⟩) h.lt).trans h.c1, (hb.cell (p := ⟨g, k * 3 + 2, none⟩) h.lt).trans h.c2, h.cond.to (fun b hS hl => ⟨hS, hb.block b hl⟩), h.guards.to (fun b hS hl => ⟨hS, hb.block b hl⟩)⟩
theorem CondS.form {S : Nat → Prop} {w : World} {v : Value} {ops : List (ByteArray × Nat)} (h : CondS S w v ops) : ∃ a b c, v = .slice a b c := row_form h.1
theorem WantsS.form {S : Nat → Prop} {w : World} {v : Value} {gs : List WWant} (h : WantsS S w v gs) : ∃ a b c, v = .slice a b c := by obtain ⟨⟨cvs, _, h, _⟩, _⟩ := h; exact row_form h
set_option maxRecDepth 100000 in
set_option maxHeartbeats 1600000 in
theorem next_p {S : Nat → Prop} {w : World} {g n c k : Nat} {s : WStep} {cv gv : Value} {ta : Option Addr} {tc : Nat} (h : StepV S w g k s cv gv) (hk : k < n) :
    Calls Tryz.prog 113 #[.agg #[.slice (some ⟨g, 0, none⟩) n c, .slice ta k tc]] w fun e w' => e = .returned (.agg #[.int .i64 s.want.kind, cv, gv]) ∧ Below w.heap.size w w' := by
  obtain ⟨ca, cb, cc, rfl⟩ := h.cond.form
  obtain ⟨ga, gb, gc, rfl⟩ := h.guards.form
  have c0 := h.c0; have c1 := h.c1; have c2 := h.c2; have hl := h.lt
  have h0 : (0 : Int) ≤ (k : Int) := by omega
  have h1 : (k : Int) < (n : Int) := by omega
  have hbx : Below w.heap.size w (w.alloc (.cells #[.slice (some ⟨g, 0, none⟩) n c, .slice ta k tc] 163)) := (Below.refl _ w).alloc (Nat.le_refl _) _
  go_enter Tryz.func113, Tryz.ntmps113
  go_wp2
  have hB := Blk.new (w.alloc (.cells #[.slice (some ⟨g, 0, none⟩) n c, .slice ta k tc] 163)) #[.int .i64 s.want.kind, .slice ca cb cc, .slice ga gb gc] 196
  have k0 := hB.cell 0; have k1 := hB.cell 1; have k2 := hB.cell 2
  simp at k0 k1 k2
  refine bodyPost_ret (v := .agg #[.int .i64 s.want.kind, .slice ca cb cc, .slice ga gb gc]) (by simp [results, Tryz.results113, go_sem, k0, k1, k2]) rfl ⟨rfl, ?_⟩
  first
  | exact hbx.alloc hbx.size _
  | exact ⟨(hbx.alloc hbx.size _).os, (hbx.alloc hbx.size _).tape, (hbx.alloc hbx.size _).output, (hbx.alloc hbx.size _).size, (hbx.alloc hbx.size _).block⟩
set_option maxRecDepth 100000 in
set_option maxHeartbeats 1600000 in
theorem isWhole_p {w : World} {sa ta : Option Addr} {n c k tc : Nat} :
    Calls Tryz.prog 117 #[.agg #[.slice sa n c, .slice ta k tc]] w fun e w' => e = .returned (.bool (decide (k = n))) ∧ Below w.heap.size w w' := by
  have hbx : Below w.heap.size w (w.alloc (.cells #[.slice sa n c, .slice ta k tc] 163)) := (Below.refl _ w).alloc (Nat.le_refl _) _
  have he : ((k : Int) == (n : Int)) = decide (k = n) := by rw [Bool.eq_iff_iff]; simp; omega
  go_enter Tryz.func117, Tryz.ntmps117
  go_wp2
  go_ret
  exact ⟨by first | rfl | simp [he], hbx⟩
end Go.Proofs.YtddbjcfdmdbmkaaGreatDoor

namespace Go.Proofs.YtddbjcfdmdbmkaaGreatDoor
open Go.RowKit

theorem step_field0 (a b c : Value) (w : World) : (Instr.field 196 (.agg #[a, b, c]) 0).run Tryz.prog w = .ok (.agg #[a, b]) w := by kernel_rfl
theorem step_field1 (a b c : Value) (w : World) : (Instr.field 196 (.agg #[a, b, c]) 1).run Tryz.prog w = .ok c w := by kernel_rfl
attribute [local go_sem] step_field0 step_field1
set_option maxRecDepth 100000 in
set_option maxHeartbeats 3200000 in
theorem takes_p {S : Nat → Prop} {w : World} {g n c k : Nat} {s : WStep} {cv gv : Value} {ta : Option Addr} {tc : Nat} {ps : List Nat} {es : List Ev} {ip : Nat} {it : Ev} (h : StepV S w g k s cv gv) (hk : k < n) (hW : WellRun s.want.cond) (hC : Ctx w w.heap.size (.slice ta k tc) ps es ip it) :
    Calls Tryz.prog 109 #[.agg #[.slice (some ⟨g, 0, none⟩) n c, .slice ta k tc], .pointer (some ⟨ip, 0, none⟩)] w fun e w' => e = .returned (.bool (fitsW s.want es it)) ∧ Below w.heap.size w w' := by
  have hNew := Blk.new w #[.slice (some ⟨g, 0, none⟩) n c, .slice ta k tc] 163
  have hb0 : Below w.heap.size w (w.alloc (.cells #[.slice (some ⟨g, 0, none⟩) n c, .slice ta k tc] 163)) := (Below.refl _ w).alloc (Nat.le_refl _) _
  have n0 : (w.alloc (.cells #[.slice (some ⟨g, 0, none⟩) n c, .slice ta k tc] 163)).cell? ⟨w.heap.size, 0, none⟩ = some (.slice (some ⟨g, 0, none⟩) n c) := hNew.cell 0
  have n1 : (w.alloc (.cells #[.slice (some ⟨g, 0, none⟩) n c, .slice ta k tc] 163)).cell? ⟨w.heap.size, 1, none⟩ = some (.slice ta k tc) := hNew.cell 1
  have hnl := hNew.lt
  have hnext : ∀ W, Below (w.alloc (.cells #[.slice (some ⟨g, 0, none⟩) n c, .slice ta k tc] 163)).heap.size (w.alloc (.cells #[.slice (some ⟨g, 0, none⟩) n c, .slice ta k tc] 163)) W → Calls Tryz.prog 113 #[.agg #[.slice (some ⟨g, 0, none⟩) n c, .slice ta k tc]] W fun e w' => e = .returned (.agg #[.int .i64 s.want.kind, cv, gv]) ∧ Below (w.alloc (.cells #[.slice (some ⟨g, 0, none⟩) n c, .slice ta k tc] 163)).heap.size (w.alloc (.cells #[.slice (some ⟨g, 0, none⟩) n c, .slice ta k tc] 163)) w' := fun W hW1 => by
    have hbW : Below w.heap.size w W := hb0.trans (hW1.mono (by simp))
    refine (next_p (h.keep hbW) hk).mono ?_
    rintro e w' ⟨h1, h2⟩
    exact ⟨h1, hW1.trans (h2.mono hW1.size)⟩
  have hfits : ∀ W, Below (w.alloc (.cells #[.slice (some ⟨g, 0, none⟩) n c, .slice ta k tc] 163)).heap.size (w.alloc (.cells #[.slice (some ⟨g, 0, none⟩) n c, .slice ta k tc] 163)) W → Calls Tryz.prog 115 #[.agg #[.int .i64 s.want.kind, cv], .slice ta k tc, .pointer (some ⟨ip, 0, none⟩)] W fun e w' => e = .returned (.bool (fitsW s.want es it)) ∧ Below w.heap.size w w' := fun W hW1 => by
    have hbW : Below w.heap.size w W := hb0.trans (hW1.mono (by simp))
    refine (fits_p (S := S) (k := s.want.kind) (h.keep hbW).cond hW ((hC.keep hbW).up hbW.size)).mono ?_
    rintro e w' ⟨h1, h2⟩
    exact ⟨h1, hbW.trans (h2.mono hbW.size)⟩
  obtain ⟨ca, cb, cc, rfl⟩ := h.cond.form
  obtain ⟨ga, gb, gc, rfl⟩ := h.guards.form
  generalize fitsW s.want es it = fv at *
  go_enter Tryz.func109, Tryz.ntmps109
  go_upto_region 1 with fail
  generalize hWd : w.alloc (.cells #[.slice (some ⟨g, 0, none⟩) n c, .slice ta k tc] 163) = W0 at *
  go_region_with (first
    | (go_at_call 113; refine (hnext _ (by first | exact Below.refl _ _ | exact ⟨rfl, rfl, rfl, Nat.le_refl _, fun _ _ => rfl⟩)).mono ?_; rintro e w1 ⟨rfl, hb1⟩; have m1 := (hb1.cell (p := ⟨w.heap.size, 1, none⟩) hnl).trans n1; have ml := Nat.lt_of_lt_of_le hnl hb1.size)
    | (go_at_call 115; refine (hfits _ (by first | exact hb1 | exact ⟨hb1.os, hb1.tape, hb1.output, hb1.size, hb1.block⟩)).mono ?_; rintro e w2 ⟨rfl, hb2⟩))
  all_goals
    go_wp2
    go_ret
    exact ⟨rfl, hb2⟩
end Go.Proofs.YtddbjcfdmdbmkaaGreatDoor
