import Derived.Test.YtddbjcfdmdbmkaaGreatDoorB16
import Derived.Test.YtddbjcfdmdbmkaaGreatDoorB08
set_option linter.unusedVariables false
set_option linter.unusedSimpArgs false
namespace Go.Proofs.YtddbjcfdmdbmkaaGreatDoor
open Go.RowKit

theorem PathAt.cells {own : Nat → Nat} {w : World} {g off : Nat} {l : List PPart} (h : PathAt own w g off l) : ∃ xs : List (Value × Value), xs.length = l.length ∧ (∀ p ∈ l.zip xs, OpsLie own w p.2.1 p.1.cond ∧ ∃ a b c, p.2.2 = .slice a b c) ∧
    ∀ j u, (flat partCells (l.zip xs))[j]? = some u → w.cell? ⟨g, off * 6 + j, none⟩ = some u := by
  induction l generalizing off with
  | nil => exact ⟨[], rfl, fun p hp => by simp at hp, fun j u hu => by simp [flat] at hu⟩
  | cons x l ih =>
    have hd : PathAt own w g (off + 1) l := by have := h.drop 1; simpa using this
    obtain ⟨xs, h1, h2, h3⟩ := ih hd
    obtain ⟨cv, hv, ho, hf, c0, c1, c2, c3, c4, c5⟩ := h.part 0 (by simp)
    refine ⟨(cv, hv) :: xs, by simp [h1], fun p hp => ?_, fun j u hu => ?_⟩
    · simp only [List.zip_cons_cons, List.mem_cons] at hp
      rcases hp with rfl | hp
      · exact ⟨ho, hf⟩
      · exact h2 p hp
    · have e : flat partCells ((x :: l).zip ((cv, hv) :: xs)) = partCells (x, (cv, hv)) ++ flat partCells (l.zip xs) := rfl
      rw [e] at hu
      simp only [Nat.add_zero, List.getElem_cons_zero] at c0 c1 c2 c3 c4 c5
      by_cases hj : j < 6
      · rw [List.getElem?_append_left (by exact hj)] at hu
        rcases (by omega : j = 0 ∨ j = 1 ∨ j = 2 ∨ j = 3 ∨ j = 4 ∨ j = 5) with rfl | rfl | rfl | rfl | rfl | rfl <;> (simp [partCells] at hu; subst hu; assumption)
      · have hl6 : (partCells (x, (cv, hv))).length = 6 := rfl
        rw [List.getElem?_append_right (by omega), hl6] at hu
        have := h3 (j - 6) u hu
        rw [show (off + 1) * 6 + (j - 6) = off * 6 + j by omega] at this
        exact this
theorem path_of_row {own : Nat → Nat} {w : World} {base : Nat} {v : Value} {l : List PPart} {xs : List (Value × Value)} (hlen : xs.length = l.length) (hrow : w.ownsRow base 189 6 v l.length (flat partCells (l.zip xs))) (hcol : ∀ g, v.ownBlock = some g → own g = 7)
    (hlie : ∀ p ∈ l.zip xs, OpsLie own w p.2.1 p.1.cond ∧ ∃ a b c, p.2.2 = .slice a b c) : PathV own w v l := by
  rcases hrow.2 with ⟨rfl, h0⟩ | ⟨g, cap, cur, rfl, _, hg, hc, _⟩
  · exact .inl ⟨List.eq_nil_of_length_eq_zero h0, _, _, rfl⟩
  · refine .inr ⟨g, 0, cap, rfl, hc, ⟨(Array.getElem?_eq_some_iff.1 hg).1, hcol g rfl, fun k hk => ?_⟩⟩
    have hz : k < (l.zip xs).length := by rw [List.length_zip]; omega
    have hp := hlie _ (List.getElem_mem hz)
    have key : ∀ i, i < 6 → ∀ u, (partCells (l[k], xs[k]'(by omega)))[i]? = some u → w.cell? ⟨g, (0 + k) * 6 + i, none⟩ = some u := by
      intro i hi u hu
      have := hrow.cells (g := g) rfl (k * 6 + i) u (by rw [flat_get partCells 6 (fun _ => rfl) _ _ _ hz hi]; simpa using hu)
      have hadd : (⟨g, 0, none⟩ : Addr).add (k * 6 + i) = ⟨g, k * 6 + i, none⟩ := by unfold Addr.add; split <;> simp_all
      rw [hadd] at this
      rw [Nat.zero_add]; exact this
    simp only [List.getElem_zip] at hp
    exact ⟨_, _, hp.1, hp.2, key 0 (by decide) _ rfl, key 1 (by decide) _ rfl, key 2 (by decide) _ rfl, key 3 (by decide) _ rfl, key 4 (by decide) _ rfl, key 5 (by decide) _ rfl⟩
theorem flat_len (l : List (PPart × (Value × Value))) : (flat partCells l).length = l.length * 6 := by
  induction l with
  | nil => rfl
  | cons x l ih =>
    have e : flat partCells (x :: l) = partCells x ++ flat partCells l := rfl
    rw [e, List.length_append, ih]
    show 6 + _ = _
    simp; omega

theorem grow_nil {n : Nat} (hn : 0 < n) (hb : n ≤ 1000000) (w : World) :
    Calls Tryz.prog 203 #[.slice none 0 0, .int .i64 n] w fun e w' => ∃ cap, e = .returned (.slice (some ⟨w.heap.size, 0, none⟩) 0 cap) ∧ w'.ownsRow w.heap.size 189 6 (.slice (some ⟨w.heap.size, 0, none⟩) 0 cap) 0 [] ∧ Below w.heap.size w w' := by
  obtain ⟨i0, hi0, hz0, hz1, hz2⟩ := info_parts Tryz.infoPart
  have h := Any8.slices_Grow_grow Tryz.growPart i0 _ hi0 hz0 (by rw [hz1]; decide) none 0 0 n [] w (Nat.le_refl _) (by omega) (by rw [hz2]; omega) (by omega) (by simp) (fun _ => rfl) (fun a e => by cases e)
  have e25 : Tryz.growPart_ren.t 25 = 189 := rfl
  rw [e25] at h
  refine h.mono ?_
  rintro e w' ⟨rfl, rfl⟩
  refine ⟨_, rfl, ⟨rfl, .inr ⟨w.heap.size, _, _, rfl, Nat.le_refl _, heap_alloc_new w.drew _, Nat.zero_le _, grownCap_le_maxLen _ _ _ _ (by unfold maxLen; omega), ?_, by simp⟩⟩, ?_⟩
  · have hge := grownCap_ge w (0 + n) 0 189
    simp only [Array.size_append, size_zeroCells, List.size_toArray, List.length_nil]
    show 0 + (0 + n - 0) * 6 + (_ - (0 + n)) * 6 = _ * 6
    generalize grownCap w (0 + n) 0 189 = c at *
    omega
  · exact below_grown (below_grown (Below.refl _ _) (grownBy_drew w none) (fun g e => by cases e)) (World.grownBy_alloc _ _ none) (fun g e => by cases e)
end Go.Proofs.YtddbjcfdmdbmkaaGreatDoor

namespace Go.Proofs.YtddbjcfdmdbmkaaGreatDoor
open Go.RowKit

theorem addr_add (g off j : Nat) : (⟨g, off, none⟩ : Addr).add j = ⟨g, off + j, none⟩ := by unfold Addr.add; split <;> simp_all
theorem news_at {w w' : World} {B g off : Nat} {cs : List Value} (hb : Below B w w') (hg : g < B) (hcs : ∀ j u, cs[j]? = some u → w.cell? ⟨g, off + j, none⟩ = some u) : ∀ j u, cs[j]? = some u → w'.cell? ((⟨g, off, none⟩ : Addr).add j) = some u := fun j u hu => by
  rw [addr_add]; exact (hb.cell (p := ⟨g, off + j, none⟩) hg).trans (hcs j u hu)

set_option maxRecDepth 100000 in
set_option maxHeartbeats 800000 in
theorem concat_nil {w : World} {G g1 off1 C1 n : Nat} (hG : G < w.heap.size) (k0 : w.cell? ⟨G, 0, none⟩ = some (.slice none 0 0)) (k1 : w.cell? ⟨G, 1, none⟩ = some (.slice (some ⟨g1, off1, none⟩) n C1)) (hn : 0 < n) (hn2 : n ≤ 1000000)
    (cs : List Value) (hcl : cs.length = n * 6) (hcs : ∀ j u, cs[j]? = some u → w.cell? ⟨g1, off1 + j, none⟩ = some u) (h1 : ∀ u ∈ cs, u.oneCell' = true) (hg1 : g1 < w.heap.size) :
    Calls Tryz.prog 170 #[.slice (some ⟨G, 0, none⟩) 2 2] w fun e w' => ∃ v, e = .returned v ∧ w'.ownsRow w.heap.size 189 6 v n cs ∧ Below w.heap.size w w' := by
  obtain ⟨i0, hi0, hz0, hz1, hz2⟩ := info_parts Tryz.infoPart
  go_enter Tryz.func170, Tryz.ntmps170
  go_wp2
  go_loop [3, 11] (fun a i => (i = .int .i64 0 ∧ a = .int .i64 0) ∨ (i = .int .i64 1 ∧ a = .int .i64 0) ∨ (i = .int .i64 2 ∧ a = .int .i64 n)) (fun _ i => 2 - (intOf i).toNat)
  case atStart => exact .inl ⟨rfl, rfl⟩
  case round =>
    rcases hrel with ⟨rfl, rfl⟩ | ⟨rfl, rfl⟩ | ⟨rfl, rfl⟩
    · go_wp2
      go_round
      case rel => exact .inr (.inl ⟨rfl, rfl⟩)
      case measure => simp [intOf]
    · go_wp2
      go_round
      case rel => exact .inr (.inr ⟨rfl, by simp⟩)
      case measure => simp [intOf]
    · go_wp2_with (go_at_call 203; refine (grow_nil hn hn2 _).mono ?_; rintro e w1 ⟨cap, rfl, hrow, hb1⟩)
      go_loopw [6, 27] (fun v i wr => (i = .int .i64 0 ∧ v = .slice (some ⟨w.heap.size, 0, none⟩) 0 cap ∧ wr = w1) ∨ (i = .int .i64 1 ∧ v = .slice (some ⟨w.heap.size, 0, none⟩) 0 cap ∧ wr = w1) ∨ (i = .int .i64 2 ∧ wr.ownsRow w.heap.size 189 6 v n cs ∧ Below w.heap.size w wr)) (fun _ i _ => 2 - (intOf i).toNat)
      case atStart => exact .inl ⟨rfl, rfl, rfl⟩
      case round =>
        have c0 := (hb1.cell (p := ⟨G, 0, none⟩) hG).trans k0
        have c1 := (hb1.cell (p := ⟨G, 1, none⟩) hG).trans k1
        rcases hrel with ⟨rfl, rfl, rfl⟩ | ⟨rfl, rfl, rfl⟩ | ⟨rfl, hr, hb⟩
        · go_wp2
          go_roundw
          case rel => exact .inr (.inl ⟨rfl, rfl, trivial⟩)
          case measure => simp [intOf]
        · go_wp2_with (at_builtin; refine wpList_append_lies _ rfl (.tmp 31) (.tmp 32) 111 rfl w.heap.size 189 i0 _ 6 88 Tryz.underlying111 hi0 hz0 hz1 hz2 rfl (by decide) _ 0 [] (by rfl) hrow ⟨g1, off1, none⟩ n C1 cs (by rfl) hcl (news_at hb1 hg1 hcs) h1 hn (by unfold maxLen; omega) (by omega) (by have := (hb1).size; omega) wr.heap.size rfl ?_; intro g cap' w2 hown hgrow hat hlt)
          go_roundw
          case rel => exact .inr (.inr ⟨rfl, by simpa using hown, below_grown hb1 hgrow (fun k hk => by cases hk; exact Nat.le_refl _)⟩)
          case measure => simp [intOf]
        · obtain ⟨a, b, c, rfl⟩ := row_form hr
          go_wp2
          go_ret
          exact ⟨_, rfl, hr, hb⟩
set_option maxRecDepth 100000 in
set_option maxHeartbeats 800000 in
theorem concat_two {w : World} {G g0 off0 C0 m g1 off1 C1 n : Nat} (hG : G < w.heap.size) (k0 : w.cell? ⟨G, 0, none⟩ = some (.slice (some ⟨g0, off0, none⟩) m C0)) (k1 : w.cell? ⟨G, 1, none⟩ = some (.slice (some ⟨g1, off1, none⟩) n C1)) (hm : 0 < m) (hn : 0 < n) (hn2 : m + n ≤ 1000000)
    (cs : List Value) (hcl : cs.length = n * 6) (hcs : ∀ j u, cs[j]? = some u → w.cell? ⟨g1, off1 + j, none⟩ = some u) (h1 : ∀ u ∈ cs, u.oneCell' = true) (hg1 : g1 < w.heap.size)
    (ds : List Value) (hdl : ds.length = m * 6) (hds : ∀ j u, ds[j]? = some u → w.cell? ⟨g0, off0 + j, none⟩ = some u) (h2 : ∀ u ∈ ds, u.oneCell' = true) (hg0 : g0 < w.heap.size) :
    Calls Tryz.prog 170 #[.slice (some ⟨G, 0, none⟩) 2 2] w fun e w' => ∃ v, e = .returned v ∧ w'.ownsRow w.heap.size 189 6 v (m + n) (ds ++ cs) ∧ Below w.heap.size w w' := by
  obtain ⟨i0, hi0, hz0, hz1, hz2⟩ := info_parts Tryz.infoPart
  go_enter Tryz.func170, Tryz.ntmps170
  go_wp2
  go_loop [3, 11] (fun a i => (i = .int .i64 0 ∧ a = .int .i64 0) ∨ (i = .int .i64 1 ∧ a = .int .i64 m) ∨ (i = .int .i64 2 ∧ a = .int .i64 ((m + n : Nat) : Int))) (fun _ i => 2 - (intOf i).toNat)
  case atStart => exact .inl ⟨rfl, rfl⟩
  case round =>
    rcases hrel with ⟨rfl, rfl⟩ | ⟨rfl, rfl⟩ | ⟨rfl, rfl⟩
    · go_wp2
      go_round
      case rel => exact .inr (.inl ⟨rfl, rfl⟩)
      case measure => simp [intOf]
    · go_wp2
      go_round
      case rel => exact .inr (.inr ⟨rfl, by simp⟩)
      case measure => simp [intOf]
    · go_wp2_with (go_at_call 203; refine (grow_nil (n := m + n) (by omega) hn2 _).mono ?_; rintro e w1 ⟨cap, rfl, hrow, hb1⟩)
      go_loopw [6, 27] (fun v i wr => (i = .int .i64 0 ∧ v = .slice (some ⟨w.heap.size, 0, none⟩) 0 cap ∧ wr = w1) ∨ (i = .int .i64 1 ∧ wr.ownsRow w.heap.size 189 6 v m ds ∧ Below w.heap.size w wr) ∨ (i = .int .i64 2 ∧ wr.ownsRow w.heap.size 189 6 v (m + n) (ds ++ cs) ∧ Below w.heap.size w wr)) (fun _ i _ => 2 - (intOf i).toNat)
      case atStart => exact .inl ⟨rfl, rfl, rfl⟩
      case round =>
        rcases hrel with ⟨rfl, rfl, rfl⟩ | ⟨rfl, hr1, hbr⟩ | ⟨rfl, hr, hb⟩
        · have c0 := (hb1.cell (p := ⟨G, 0, none⟩) hG).trans k0
          go_wp2_with (at_builtin; refine wpList_append_lies _ rfl (.tmp 31) (.tmp 32) 111 rfl w.heap.size 189 i0 _ 6 88 Tryz.underlying111 hi0 hz0 hz1 hz2 rfl (by decide) _ 0 [] (by rfl) hrow ⟨g0, off0, none⟩ m C0 ds (by rfl) hdl (news_at hb1 hg0 hds) h2 hm (by unfold maxLen; omega) (by omega) (by have := (hb1).size; omega) wr.heap.size rfl ?_; intro g cap' w2 hown hgrow hat hlt)
          go_roundw
          case rel => exact .inr (.inl ⟨rfl, by simpa using hown, below_grown hb1 hgrow (fun k hk => by cases hk; exact Nat.le_refl _)⟩)
          case measure => simp [intOf]
        · have c1 := (hbr.cell (p := ⟨G, 1, none⟩) hG).trans k1
          have hfo := hr1.lt
          obtain ⟨a, b, c, rfl⟩ := row_form hr1
          go_wp2_with (at_builtin; refine wpList_append_lies _ rfl (.tmp 31) (.tmp 32) 111 rfl w.heap.size 189 i0 _ 6 88 Tryz.underlying111 hi0 hz0 hz1 hz2 rfl (by decide) _ m ds (by rfl) hr1 ⟨g1, off1, none⟩ n C1 cs (by rfl) hcl (news_at hbr hg1 hcs) h1 hn (by unfold maxLen; omega) (by omega) (by have := (hbr).size; omega) wr.heap.size rfl ?_; intro g cap' w2 hown hgrow hat hlt)
          go_roundw
          case rel => exact .inr (.inr ⟨rfl, hown, below_grown hbr hgrow (fun k hk => (hfo k hk).1)⟩)
          case measure => simp [intOf]
        · obtain ⟨a, b, c, rfl⟩ := row_form hr
          go_wp2
          go_ret
          exact ⟨_, rfl, hr, hb⟩
end Go.Proofs.YtddbjcfdmdbmkaaGreatDoor

namespace Go.Proofs.YtddbjcfdmdbmkaaGreatDoor
open Go.RowKit

theorem PathAt.colr {own own' : Nat → Nat} {w : World} (he : ∀ k, k < w.heap.size → own k = 7 → own' k = 7) {g off : Nat} {l : List PPart} (h : PathAt own w g off l) : PathAt own' w g off l :=
  ⟨h.lt, he g h.lt h.col, fun k hk => by obtain ⟨cv, hv, ho, r⟩ := h.part k hk; exact ⟨cv, hv, ho.col he, r⟩⟩
theorem PathV.colr {own own' : Nat → Nat} {w : World} (he : ∀ k, k < w.heap.size → own k = 7 → own' k = 7) {v : Value} {l : List PPart} (h : PathV own w v l) : PathV own' w v l := by
  rcases h with h | ⟨g, off, cap, h1, h2, h3⟩
  · exact .inl h
  · exact .inr ⟨g, off, cap, h1, h2, h3.colr he⟩
theorem movePV {own own' : Nat → Nat} {w w' : World} {row : Option Nat} (hg : w.grownBy w' row) (hr : ∀ k, row = some k → own k = 8) (he : ∀ k, k < w.heap.size → own k ≠ 8 → own' k = own k) {v : Value} {l : List PPart} (h : PathV own w v l) : PathV own' w' v l := by
  have h1 : PathV (no8 own) w v l := h.colr (fun k _ e => by simp [no8, e])
  have h2 := h1.ext (no8_ext hg hr he)
  refine h2.colr (fun k _ e => ?_)
  by_cases hlt : k < w.heap.size
  · simp only [hlt, if_true] at e
    unfold no8 at e
    split at e
    · omega
    · rename_i hne; rw [he k hlt hne]; exact e
  · simp only [hlt, if_false] at e; exact e

def PathN (own : Nat → Nat) (w : World) (v : Value) (l : List PPart) : Prop := PathV own w v l ∧ (l = [] → v = .slice none 0 0)
def PathsLie (own : Nat → Nat) (w : World) (v : Value) (ps : List (List PPart)) : Prop :=
  ∃ vs : List Value, vs.length = ps.length ∧ w.ownsRow 0 111 1 v ps.length vs ∧ (∀ g, v.ownBlock = some g → own g = 7) ∧ ∀ q ∈ ps.zip vs, PathN own w q.2 q.1
theorem PathsLie.ext {own own' : Nat → Nat} {w w' : World} {v : Value} {ps : List (List PPart)} (h : PathsLie own w v ps) (hE : Ext own w own' w') : PathsLie own' w' v ps := by
  obtain ⟨vs, h1, h2, h3, h4⟩ := h
  obtain ⟨r, o⟩ := row_ext7 h2 h3 hE
  exact ⟨vs, h1, r, o, fun q hq => ⟨(h4 q hq).1.ext hE, (h4 q hq).2⟩⟩
theorem PathsLie.open {own : Nat → Nat} {w : World} {v : Value} {ps : List (List PPart)} (h : PathsLie own w v ps) (h0 : 0 < ps.length) : ∃ g cap, v = .slice (some ⟨g, 0, none⟩) ps.length cap ∧ g < w.heap.size ∧ own g = 7 ∧ ∀ k, (hk : k < ps.length) → ∃ pv, w.cell? ⟨g, k, none⟩ = some pv ∧ PathN own w pv ps[k] := by
  obtain ⟨vs, hl, hrow, hcol, hlie⟩ := h
  rcases hrow.2 with ⟨_, h0'⟩ | ⟨g, cap, cur, rfl, _, hg, _⟩
  · omega
  · refine ⟨g, cap, rfl, (Array.getElem?_eq_some_iff.1 hg).1, hcol g rfl, fun k hk => ⟨vs[k]'(by omega), ?_, ?_⟩⟩
    · have := hrow.cells (g := g) rfl k (vs[k]'(by omega)) (by simp [show k < vs.length by omega])
      rw [addr_add, Nat.zero_add] at this; exact this
    · have hz : k < (ps.zip vs).length := by rw [List.length_zip]; omega
      have := hlie _ (List.getElem_mem hz)
      simpa using this
structure EB (own : Nat → Nat) (w : World) (v : Value) (own' : Nat → Nat) (acc : List (List PPart)) (vs : List Value) (wr : World) : Prop where
  ext : Ext own w own' wr
  len : vs.length = acc.length
  row : wr.ownsRow 0 111 1 v acc.length vs
  col : ∀ g, v.ownBlock = some g → own' g = 8 ∧ w.heap.size ≤ g
  lie : ∀ q ∈ acc.zip vs, PathN own' wr q.2 q.1
theorem EB.start (own : Nat → Nat) (w : World) : EB own w (.slice none 0 0) own [] [] w :=
  ⟨Ext.refl _ _, rfl, World.ownsRow_nil _ _ _ _, fun g e => by simp [Value.ownBlock] at e, fun q hq => by simp at hq⟩
theorem EB.next {own own' own2 : Nat → Nat} {w wr w2 : World} {v : Value} {acc : List (List PPart)} {vs : List Value} (h : EB own w v own' acc vs wr) (he : Ext own' wr own2 w2) : EB own w v own2 acc vs w2 :=
  ⟨h.ext.trans he, h.len, row_ext8 h.row (fun g hg => by rw [(h.col g hg).1]; decide) he, fun g hg => ⟨(he.same g (h.row.lt g hg).2).trans (h.col g hg).1, (h.col g hg).2⟩, fun q hq => ⟨(h.lie q hq).1.ext he, (h.lie q hq).2⟩⟩
theorem EB.app {own own' : Nat → Nat} {w wr w4 : World} {v : Value} {acc : List (List PPart)} {vs : List Value} {pv : Value} {l : List PPart} {g cap : Nat} {o : Obj} (h : EB own w v own' acc vs wr) (hl : PathN own' wr pv l)
    (hown : w4.ownsRow 0 111 1 (.slice (some ⟨g, 0, none⟩) (acc.length + 1) cap) (acc.length + 1) (vs ++ [pv])) (hgrow : (wr.alloc o).grownBy w4 v.ownBlock) (hat : v.ownBlock = some g ∨ g = wr.heap.size + 1) :
    EB own w (.slice (some ⟨g, 0, none⟩) (acc.length + 1) cap) (put own' g 8) (acc ++ [l]) (vs ++ [pv]) w4 := by
  have hr8 : ∀ k, v.ownBlock = some k → own' k = 8 := fun k hk => (h.col k hk).1
  have hat' : v.ownBlock = some g ∨ g = (wr.alloc o).heap.size := by simpa using hat
  have hgw : w.heap.size ≤ g := by
    rcases hat with e | e
    · exact (h.col g e).2
    · have := h.ext.size; omega
  have hmv : ∀ v s, PathN own' wr v s → PathN (put own' g 8) w4 v s := fun v' s' hq =>
    ⟨movePV hgrow hr8 (fun k hk hne => by
      by_cases e : k = g
      · subst e
        rcases hat with e | e
        · exact absurd (hr8 k e) hne
        · have : k < wr.heap.size + 1 := by simpa using hk
          omega
      · exact put_other _ _ _ _ e) (movePV (World.grownBy_alloc wr o none) (fun k e => by cases e) (fun _ _ _ => rfl) hq.1), hq.2⟩
  refine ⟨(h.ext.alloc o).appC hgrow (fun k hk => (h.col k hk).2) hat', by simp [h.len], by rw [List.length_append]; exact hown, fun k e => by cases e; exact ⟨put_same _ _ _, hgw⟩, ?_⟩
  intro q hq
  rw [zip_snoc2 _ _ _ _ h.len] at hq
  rcases List.mem_append.1 hq with hq | hq
  · exact hmv _ _ (h.lie q hq)
  · simp at hq; subst hq; exact hmv _ _ hl
theorem EB.done {own own2 : Nat → Nat} {w w2 : World} {v : Value} {acc : List (List PPart)} {vs : List Value} (h : EB own w v own2 acc vs w2) : ∃ own', Ext own w own' w2 ∧ PathsLie own' w2 v acc := by
  cases hv : v.ownBlock with
  | none => exact ⟨own2, h.ext, vs, h.len, h.row, fun g hg => (by rw [hv] at hg; cases hg), h.lie⟩
  | some g =>
    obtain ⟨hg8, hgw⟩ := h.col g hv
    refine ⟨put own2 g 7, ⟨fun k hk => by rw [put_other _ _ _ _ (by omega)]; exact h.ext.same k hk, h.ext.kept⟩, vs, h.len, h.row, fun k hk => by rw [hv] at hk; cases hk; exact put_same _ _ _, fun q hq => ⟨(h.lie q hq).1.colr (fun k _ e => ?_), (h.lie q hq).2⟩⟩
    rw [put_other _ _ _ _ (fun x => by rw [x, hg8] at e; cases e)]; exact e
theorem path_new {own : Nat → Nat} {w w1 : World} {B : Nat} {v : Value} {l : List PPart} {xs : List (Value × Value)} (hlen : xs.length = l.length) (hne : l ≠ []) (hrow : w1.ownsRow B 189 6 v l.length (flat partCells (l.zip xs))) (hB : w.heap.size ≤ B) (hb : Below w.heap.size w w1)
    (hlie : ∀ p ∈ l.zip xs, OpsLie own w p.2.1 p.1.cond ∧ ∃ a b c, p.2.2 = .slice a b c) : ∃ own', Ext own w own' w1 ∧ PathN own' w1 v l := by
  rcases hrow.2 with ⟨_, h0⟩ | ⟨g, cap, cur, rfl, hBg, hg, _⟩
  · exact absurd (List.eq_nil_of_length_eq_zero h0) hne
  · have hE : Ext own w (put own g 7) w1 := ⟨fun k hk => put_other _ _ _ _ (by omega), (Kept.ofBelow hb).mono (fun _ hk => hk.1)⟩
    refine ⟨put own g 7, hE, path_of_row hlen hrow (fun k e => by cases e; exact put_same _ _ _) (fun p hp => ⟨(hlie p hp).1.ext hE, (hlie p hp).2⟩), fun e => absurd e hne⟩
theorem Tryz.infoPath : (Tryz.prog.info? 111).map (fun i => (i.zero, i.size, i.bytes)) = some (some (.slice none 0 0), 1, 24) := by kernel_rfl
end Go.Proofs.YtddbjcfdmdbmkaaGreatDoor

namespace Go.Proofs.YtddbjcfdmdbmkaaGreatDoor
open Go.RowKit

theorem flat_append (a b : List (PPart × (Value × Value))) : flat partCells (a ++ b) = flat partCells a ++ flat partCells b := by simp [flat]
theorem one_cells {own : Nat → Nat} {w : World} {l : List PPart} {xs : List (Value × Value)} (h : ∀ p ∈ l.zip xs, OpsLie own w p.2.1 p.1.cond ∧ ∃ a b c, p.2.2 = .slice a b c) : ∀ u ∈ flat partCells (l.zip xs), u.oneCell' = true := by
  intro u hu
  simp only [flat, List.mem_flatten, List.mem_map] at hu
  obtain ⟨cs, ⟨p, hp, rfl⟩, hu⟩ := hu
  obtain ⟨ho, a, b, c, e⟩ := h p hp
  obtain ⟨a', b', c', e'⟩ := row_form ho.1
  simp only [partCells, List.mem_cons, List.not_mem_nil, or_false] at hu
  rcases hu with rfl | rfl | rfl | rfl | rfl | rfl
  · rfl
  · rfl
  · rfl
  · rfl
  · rw [e']; rfl
  · rw [e]; rfl

theorem cat_p {own : Nat → Nat} {w : World} {hv tv : Value} {h t : List PPart} (hh : PathN own w hv h) (ht : PathN own w tv t) (hne : t ≠ []) (hl : h.length + t.length ≤ 1000000) :
    Calls Tryz.prog 170 #[.slice (some ⟨w.heap.size, 0, none⟩) 2 2] (w.alloc (.cells #[hv, tv] 111)) fun e w' => ∃ v, e = .returned v ∧ ∃ own', Ext own w own' w' ∧ PathN own' w' v (h ++ t) := by
  have hb0 : Below w.heap.size w (w.alloc (.cells #[hv, tv] 111)) := (Below.refl _ _).alloc (Nat.le_refl _) _
  have hG : w.heap.size < (w.alloc (.cells #[hv, tv] 111)).heap.size := by simp
  have k0 := (Blk.new w #[hv, tv] 111).cell 0
  have k1 := (Blk.new w #[hv, tv] 111).cell 1
  rcases ht.1 with ⟨e, _⟩ | ⟨g1, off1, C1, rfl, _, hP1⟩
  · exact absurd e hne
  obtain ⟨ys, hy1, hy2, hy3⟩ := hP1.cells
  have htl : 0 < t.length := by cases t with | nil => exact absurd rfl hne | cons _ _ => simp
  have hcs : ∀ j u, (flat partCells (t.zip ys))[j]? = some u → (w.alloc (.cells #[hv, .slice (some ⟨g1, off1 * 6, none⟩) t.length C1] 111)).cell? ⟨g1, off1 * 6 + j, none⟩ = some u := fun j u hu => (hb0.cell (p := ⟨g1, off1 * 6 + j, none⟩) hP1.lt).trans (hy3 j u hu)
  have hcl : (flat partCells (t.zip ys)).length = t.length * 6 := by rw [flat_len, List.length_zip, hy1, Nat.min_self]
  have hg1 : g1 < (w.alloc (.cells #[hv, .slice (some ⟨g1, off1 * 6, none⟩) t.length C1] 111)).heap.size := by rw [alloc_size]; have := hP1.lt; omega
  by_cases hh0 : h = []
  · subst hh0
    have e := hh.2 rfl
    subst e
    refine (concat_nil hG k0 k1 htl (by simp at hl; omega) _ hcl hcs (one_cells hy2) hg1).mono ?_
    rintro e w' ⟨v, rfl, hrow, hb⟩
    have hB := hb0.trans (hb.mono (by rw [alloc_size]; omega))
    exact ⟨v, rfl, path_new (xs := ys) hy1 hne hrow (by rw [alloc_size]; omega) hB hy2⟩
  · rcases hh.1 with ⟨e, _⟩ | ⟨g0, off0, C0, rfl, _, hP0⟩
    · exact absurd e hh0
    obtain ⟨xs, hx1, hx2, hx3⟩ := hP0.cells
    have hhl : 0 < h.length := by cases h with | nil => exact absurd rfl hh0 | cons _ _ => simp
    have hds : ∀ j u, (flat partCells (h.zip xs))[j]? = some u → (w.alloc (.cells #[.slice (some ⟨g0, off0 * 6, none⟩) h.length C0, .slice (some ⟨g1, off1 * 6, none⟩) t.length C1] 111)).cell? ⟨g0, off0 * 6 + j, none⟩ = some u := fun j u hu => (hb0.cell (p := ⟨g0, off0 * 6 + j, none⟩) hP0.lt).trans (hx3 j u hu)
    have hdl : (flat partCells (h.zip xs)).length = h.length * 6 := by rw [flat_len, List.length_zip, hx1, Nat.min_self]
    have hg0 : g0 < (w.alloc (.cells #[.slice (some ⟨g0, off0 * 6, none⟩) h.length C0, .slice (some ⟨g1, off1 * 6, none⟩) t.length C1] 111)).heap.size := by rw [alloc_size]; have := hP0.lt; omega
    refine (concat_two hG k0 k1 hhl htl hl _ hcl hcs (one_cells hy2) hg1 _ hdl hds (one_cells hx2) hg0).mono ?_
    rintro e w' ⟨v, rfl, hrow, hb⟩
    have hB := hb0.trans (hb.mono (by rw [alloc_size]; omega))
    have hz : (h ++ t).zip (xs ++ ys) = h.zip xs ++ t.zip ys := List.zip_append hx1.symm
    refine ⟨v, rfl, path_new (l := h ++ t) (xs := xs ++ ys) (by simp [hx1, hy1]) (by simp [hh0]) (by rw [hz, flat_append, List.length_append]; exact hrow) (by rw [alloc_size]; omega) hB ?_⟩
    intro p hp
    rw [hz] at hp
    rcases List.mem_append.1 hp with hp | hp
    · exact hx2 p hp
    · exact hy2 p hp

def eachP (hs ts : List (List PPart)) : List (List PPart) := hs.flatMap fun h => ts.map (h ++ ·)
end Go.Proofs.YtddbjcfdmdbmkaaGreatDoor

namespace Go.Proofs.YtddbjcfdmdbmkaaGreatDoor
open Go.RowKit

theorem eachP_len (hs ts : List (List PPart)) : (eachP hs ts).length = hs.length * ts.length := by
  unfold eachP
  induction hs with
  | nil => simp
  | cons h hs ih => rw [List.flatMap_cons, List.length_append, ih, List.length_map, List.length_cons, Nat.succ_mul, Nat.add_comm]
theorem eachP_succ (hs ts : List (List PPart)) (k : Nat) (h : k < hs.length) : eachP (hs.take (k + 1)) ts = eachP (hs.take k) ts ++ ts.map (hs[k] ++ ·) := by
  unfold eachP; rw [List.take_succ_eq_append_getElem h, List.flatMap_append]; simp
theorem map_succ (x : List PPart) (ts : List (List PPart)) (j : Nat) (h : j < ts.length) : (ts.take (j + 1)).map (x ++ ·) = (ts.take j).map (x ++ ·) ++ [x ++ ts[j]] := by
  rw [List.take_succ_eq_append_getElem h, List.map_append]; rfl

set_option maxRecDepth 100000 in
set_option maxHeartbeats 1600000 in
theorem eachBehind_p {own : Nat → Nat} {w : World} {hv tv : Value} {hs ts : List (List PPart)} (hH : PathsLie own w hv hs) (hT : PathsLie own w tv ts) (h0 : 0 < hs.length) (t0 : 0 < ts.length) (hne : ∀ t ∈ ts, t ≠ []) (hb : hs.length * ts.length ≤ 1000000)
    (hhl : ∀ h ∈ hs, h.length ≤ 100000) (htl : ∀ t ∈ ts, t.length ≤ 100000) :
    Calls Tryz.prog 134 #[hv, tv] w fun e w' => ∃ v, e = .returned v ∧ ∃ own', Ext own w own' w' ∧ PathsLie own' w' v (eachP hs ts) := by
  obtain ⟨gh, ch, rfl, hgh, hoh, hcellh⟩ := hH.open h0
  obtain ⟨gt, ct, rfl, hgt, hot, hcellt⟩ := hT.open t0
  have hhs : hs.length ≤ 1000000 := Nat.le_trans (Nat.le_mul_of_pos_right _ t0) hb
  have hts : ts.length ≤ 1000000 := Nat.le_trans (Nat.le_mul_of_pos_left _ h0) hb
  obtain ⟨i0, hi0, hz0, hz1, hz2⟩ := info_parts Tryz.infoPath
  clear hH hT
  go_enter Tryz.func134, Tryz.ntmps134
  go_wp2
  go_loopw [5, 12] (fun v i wr => ∃ (k : Nat) (own' : Nat → Nat) (vs : List Value), k ≤ hs.length ∧ i = .int .i64 k ∧ EB own w v own' (eachP (hs.take k) ts) vs wr) (fun _ i _ => hs.length - (intOf i).toNat)
  case atStart => exact ⟨0, own, [], Nat.zero_le _, rfl, EB.start own w⟩
  case round =>
    obtain ⟨k, own', vs, hk, rfl, hEB⟩ := hrel
    obtain ⟨a, b, c, rfl⟩ := row_form hEB.row
    obtain ⟨wo, rfl⟩ : ∃ x, x = wr := ⟨_, rfl⟩
    by_cases hlt : k < hs.length
    · obtain ⟨pv, hpc, hpN⟩ := hcellh k hlt
      have eh := hEB.ext.kept.block gh ⟨hgh, by rw [hoh]; decide⟩
      have hpc' := (cell_eq eh k).trans hpc
      have hlk := hhl _ (List.getElem_mem hlt)
      have HS : Hid (eachP (hs.take (k + 1)) ts = eachP (hs.take k) ts ++ ts.map (hs[k] ++ ·)) := eachP_succ hs ts k hlt
      have HL : Hid ((eachP (hs.take k) ts).length + ts.length ≤ 1000000) := by
        show _ ≤ _
        rw [eachP_len, List.length_take, Nat.min_eq_left hk, ← Nat.succ_mul]
        exact Nat.le_trans (Nat.mul_le_mul_right _ hlt) hb
      obtain ⟨pa, pb, pc, rfl⟩ := hpN.1.form
      have hki : (k : Int) < (hs.length : Int) := by omega
      have hk0 : (0 : Int) ≤ (k : Int) := by omega
      have hE0 : EB own w (.slice a b c) own' (eachP (hs.take k) ts ++ (ts.take 0).map (hs[k] ++ ·)) vs wo := by simpa using hEB
      clear hEB hpc
      generalize hs[k] = hd at *
      generalize eachP (hs.take k) ts = pre at *
      go_wp2
      go_loopw [5, 18] (fun v i wr => ∃ (j : Nat) (own2 : Nat → Nat) (vs2 : List Value), j ≤ ts.length ∧ i = .int .i64 j ∧ EB own w v own2 (pre ++ (ts.take j).map (hd ++ ·)) vs2 wr) (fun _ i _ => ts.length - (intOf i).toNat)
      case atStart => exact ⟨0, own', vs, Nat.zero_le _, rfl, hE0⟩
      case round =>
        obtain ⟨j, own2, vs2, hj, rfl, hEB2⟩ := hrel
        clear hE0
        obtain ⟨a2, b2, c2, rfl⟩ := row_form hEB2.row
        by_cases hjl : j < ts.length
        · obtain ⟨qv, hqc, hqN⟩ := hcellt j hjl
          have et := hEB2.ext.kept.block gt ⟨hgt, by rw [hot]; decide⟩
          have hqc' := (cell_eq et j).trans hqc
          have hcat := cat_p ⟨hpN.1.ext hEB2.ext, hpN.2⟩ ⟨hqN.1.ext hEB2.ext, hqN.2⟩ (hne _ (List.getElem_mem hjl)) (by have := htl _ (List.getElem_mem hjl); omega)
          have HM : Hid (pre ++ (ts.take (j + 1)).map (hd ++ ·) = (pre ++ (ts.take j).map (hd ++ ·)) ++ [hd ++ ts[j]]) := by show _ = _; rw [map_succ hd ts j hjl, List.append_assoc]
          have hal : (pre ++ (ts.take j).map (hd ++ ·)).length ≤ 1000000 := by have := HL.out; simp; omega
          obtain ⟨qa, qb, qc, rfl⟩ := hqN.1.form
          have hji : (j : Int) < (ts.length : Int) := by omega
          have hj0 : (0 : Int) ≤ (j : Int) := by omega
          clear hqc et
          generalize ts[j] = tl at *
          generalize pre ++ (ts.take j).map (hd ++ ·) = acc at *
          go_wp2_with (first
            | (go_at_call 170; refine hcat.mono ?_; rintro e w3 ⟨pv3, rfl, own3, he3, hN3⟩; obtain ⟨ra, rb, rc, rfl⟩ := hN3.1.form; have hEB3 := hEB2.next he3)
            | (at_builtin; refine wpList_append_lies _ rfl (.tmp 22) (.tmp 27) 65 rfl 0 111 i0 _ 1 24 Tryz.underlying65 hi0 hz0 hz1 hz2 rfl (by decide) _ acc.length vs2 (by rfl) (hEB3.row.alloc _) ⟨w3.heap.size, 0, none⟩ 1 1 [.slice ra rb rc] (by rfl) rfl (World.news_of_block (alloc_at _ _ _ (by simp))) (by simp [Value.oneCell']) (by decide) (by unfold maxLen; omega) (by omega) (Nat.zero_le _) (w3.heap.size + 1) (by simp) ?_; intro g cap w4 hown hgrow hat hlt4))
          have hEB4 := hEB3.app hN3 hown hgrow (by simpa using hat)
          go_roundw
          case rel => exact ⟨j + 1, _, _, hjl, by go_num, by rw [HM.out]; exact hEB4⟩
          case measure => simp [intOf]; omega
        · have ej : j = ts.length := by omega
          subst ej
          go_wp2
          go_roundw
          case rel => exact ⟨k + 1, own2, vs2, hlt, by go_num, by rw [HS.out]; simpa using hEB2⟩
          case measure => simp [intOf]; omega
    · have ek : k = hs.length := by omega
      subst ek
      have HE : Hid (hs.take hs.length = hs) := List.take_length
      rw [HE.out] at hEB
      go_wp2
      go_ret
      exact ⟨_, rfl, hEB.done⟩
end Go.Proofs.YtddbjcfdmdbmkaaGreatDoor

namespace Go.Proofs.YtddbjcfdmdbmkaaGreatDoor
open Go.RowKit

set_option maxRecDepth 100000 in
set_option maxHeartbeats 800000 in
theorem mul_1 (w : World) : Calls Tryz.prog 204 #[.int .u64 1, .int .u64 1] w fun e w' => e = .returned (.tuple #[.int .u64 0, .int .u64 1]) ∧ w' = w := by
  go_enter Tryz.func204, Tryz.ntmps204
  go_wp2
  go_ret2
  exact ⟨by kernel_rfl, rfl⟩
set_option maxRecDepth 100000 in
set_option maxHeartbeats 800000 in
theorem mul_2 (w : World) : Calls Tryz.prog 204 #[.int .u64 1, .int .u64 2] w fun e w' => e = .returned (.tuple #[.int .u64 0, .int .u64 2]) ∧ w' = w := by
  go_enter Tryz.func204, Tryz.ntmps204
  go_wp2
  go_ret2
  exact ⟨by kernel_rfl, rfl⟩
set_option maxRecDepth 100000 in
set_option maxHeartbeats 800000 in
theorem mul_3 (w : World) : Calls Tryz.prog 204 #[.int .u64 1, .int .u64 3] w fun e w' => e = .returned (.tuple #[.int .u64 0, .int .u64 3]) ∧ w' = w := by
  go_enter Tryz.func204, Tryz.ntmps204
  go_wp2
  go_ret2
  exact ⟨by kernel_rfl, rfl⟩
set_option maxRecDepth 100000 in
set_option maxHeartbeats 800000 in
theorem mul_4 (w : World) : Calls Tryz.prog 204 #[.int .u64 1, .int .u64 4] w fun e w' => e = .returned (.tuple #[.int .u64 0, .int .u64 4]) ∧ w' = w := by
  go_enter Tryz.func204, Tryz.ntmps204
  go_wp2
  go_ret2
  exact ⟨by kernel_rfl, rfl⟩
theorem make_1 (w : World) : (Instr.makeSlice 111 (.int .i64 1) (.int .i64 1)).run Tryz.prog w = .ok (.slice (some ⟨w.heap.size, 0, none⟩) 1 1) (w.alloc (.cells #[.string ⟨#[]⟩, .int .i64 0, .int .i64 0, .int .i64 0, .slice none 0 0, .slice none 0 0] 189)) := by kernel_rfl
theorem make_2 (w : World) : (Instr.makeSlice 111 (.int .i64 2) (.int .i64 2)).run Tryz.prog w = .ok (.slice (some ⟨w.heap.size, 0, none⟩) 2 2) (w.alloc (.cells #[.string ⟨#[]⟩, .int .i64 0, .int .i64 0, .int .i64 0, .slice none 0 0, .slice none 0 0, .string ⟨#[]⟩, .int .i64 0, .int .i64 0, .int .i64 0, .slice none 0 0, .slice none 0 0] 189)) := by kernel_rfl
theorem make_3 (w : World) : (Instr.makeSlice 111 (.int .i64 3) (.int .i64 3)).run Tryz.prog w = .ok (.slice (some ⟨w.heap.size, 0, none⟩) 3 3) (w.alloc (.cells #[.string ⟨#[]⟩, .int .i64 0, .int .i64 0, .int .i64 0, .slice none 0 0, .slice none 0 0, .string ⟨#[]⟩, .int .i64 0, .int .i64 0, .int .i64 0, .slice none 0 0, .slice none 0 0, .string ⟨#[]⟩, .int .i64 0, .int .i64 0, .int .i64 0, .slice none 0 0, .slice none 0 0] 189)) := by kernel_rfl
theorem make_4 (w : World) : (Instr.makeSlice 111 (.int .i64 4) (.int .i64 4)).run Tryz.prog w = .ok (.slice (some ⟨w.heap.size, 0, none⟩) 4 4) (w.alloc (.cells #[.string ⟨#[]⟩, .int .i64 0, .int .i64 0, .int .i64 0, .slice none 0 0, .slice none 0 0, .string ⟨#[]⟩, .int .i64 0, .int .i64 0, .int .i64 0, .slice none 0 0, .slice none 0 0, .string ⟨#[]⟩, .int .i64 0, .int .i64 0, .int .i64 0, .slice none 0 0, .slice none 0 0, .string ⟨#[]⟩, .int .i64 0, .int .i64 0, .int .i64 0, .slice none 0 0, .slice none 0 0] 189)) := by kernel_rfl

theorem copy_rows (w : World) (g o dLen dCap : Nat) (a : Addr) (sLen sCap k : Nat) (cur : Array Value) (t : TypeId) (cs : List Value)
    (hg : w.heap[g]? = some (.cells cur t (0, 0))) (hk : k = Nat.min sLen dLen) (hn : cs.length = k * 6)
    (hsrc : ∀ j v, cs[j]? = some v → w.cell? (a.add j) = some v) (hfit : o + cs.length ≤ cur.size) (h1 : ∀ v ∈ cs, v.oneCell' = true) :
    (Builtin.copy_ #[111, 111] 3 #[.slice (some ⟨g, o, none⟩) dLen dCap, .slice (some a) sLen sCap]).run Tryz.prog w =
      .ok (goInt k) (w.setRow g (cur.toList.take o ++ cs ++ cur.toList.drop (o + cs.length)).toArray) := by
  have hl := run_loadCells_list (P := Tryz.prog) w a cs hsrc
  have hst := run_storeCells_at Tryz.prog g o t cs 0 cur w hg (by simpa using hfit) h1
  obtain ⟨i0, hi0, hz0, hz1, hz2⟩ := info_parts Tryz.infoPart
  rw [hn] at hl
  simp [Builtin.copy_, run_underlying Tryz.underlying111, Builtin.lenOf, Builtin.firstCells, sizeOf, typeInfo, hi0, hz1, ← hk, hl, hst]

theorem setRow_new (w : World) (cur new : Array Value) (t : TypeId) : (w.alloc (.cells cur t)).setRow w.heap.size new = w.alloc (.cells new t) := by
  unfold World.setRow World.alloc
  simp only [World.mk.injEq, true_and, and_true]
  apply Array.ext
  · simp
  · intro i h1 h2
    simp only [Array.getElem_modify, Array.getElem_push]
    by_cases e : w.heap.size = i
    · subst e; simp
    · have : i < w.heap.size := by simp at h2; omega
      simp [e, this]
theorem copy_new (w : World) (cur : Array Value) (o dLen dCap : Nat) (a : Addr) (sLen sCap k : Nat) (cs : List Value) (new : Array Value) (hk : k = Nat.min sLen dLen) (hn : cs.length = k * 6)
    (hsrc : ∀ j v, cs[j]? = some v → (w.alloc (.cells cur 189)).cell? (a.add j) = some v) (hfit : o + cs.length ≤ cur.size) (h1 : ∀ v ∈ cs, v.oneCell' = true) (hnew : (cur.toList.take o ++ cs ++ cur.toList.drop (o + cs.length)).toArray = new) :
    (Builtin.copy_ #[111, 111] 3 #[.slice (some ⟨w.heap.size, o, none⟩) dLen dCap, .slice (some a) sLen sCap]).run Tryz.prog (w.alloc (.cells cur 189)) = .ok (goInt k) (w.alloc (.cells new 189)) := by
  rw [copy_rows _ _ _ _ _ a sLen sCap k cur 189 cs (heap_alloc_new w _) hk hn hsrc hfit h1, hnew, setRow_new]

set_option maxRecDepth 100000 in
set_option maxHeartbeats 1600000 in
theorem repeat_1 {w : World} {B : Nat} {v0 v1 v2 v3 v4 v5 : Value} (hB : Blk w B #[v0, v1, v2, v3, v4, v5] 189) (o : ∀ u ∈ [v0, v1, v2, v3, v4, v5], u.oneCell' = true) :
    Calls Tryz.prog 171 #[.slice (some ⟨B, 0, none⟩) 1 1, .int .i64 1] w fun e w' => ∃ v, e = .returned v ∧ w'.ownsRow w.heap.size 189 6 v 1 [v0, v1, v2, v3, v4, v5] ∧ Below w.heap.size w w' := by
  have hmk := make_1
  have hcp := copy_new w #[.string ⟨#[]⟩, .int .i64 0, .int .i64 0, .int .i64 0, .slice none 0 0, .slice none 0 0] 0 1 1 ⟨B, 0, none⟩ 1 1 1 [v0, v1, v2, v3, v4, v5] #[v0, v1, v2, v3, v4, v5] rfl rfl (fun j u hu => by rw [addr_add, Nat.zero_add, (hB.alloc _).cell]; simpa using hu) (by simp) o rfl
  go_enter Tryz.func171, Tryz.ntmps171
  go_wp2_with (go_at_call 204; refine (mul_1 _).mono ?_; rintro e w1 ⟨rfl, he⟩; rw [he]; clear he)
  go_loopw [8] (fun n wr => n = .int .i64 1 ∧ wr = w.alloc (.cells #[v0, v1, v2, v3, v4, v5] 189)) (fun _ _ => 0)
  case atStart => exact ⟨rfl, rfl⟩
  case round =>
    obtain ⟨rfl, rfl⟩ := hrel
    go_wp2
    go_ret
    exact ⟨_, rfl, ⟨rfl, .inr ⟨w.heap.size, 1, _, rfl, Nat.le_refl _, heap_alloc_new w _, Nat.le_refl _, by unfold maxLen; decide, rfl, rfl⟩⟩, (Below.refl _ _).alloc (Nat.le_refl _) _⟩
theorem pre_get {a b : List Value} {j : Nat} {u : Value} (h : a[j]? = some u) : ((a ++ b).toArray)[j]? = some u := by
  have hj : j < a.length := (List.getElem?_eq_some_iff.1 h).1
  simp [List.getElem?_append_left hj, h]
theorem below_drew1 (w : World) (o : Obj) : Below w.heap.size w (w.alloc o).drew := below_grown ((Below.refl _ _).alloc (Nat.le_refl _) _) (grownBy_drew _ none) (fun g e => by cases e)
theorem below_drew2 (w : World) (o : Obj) : Below w.heap.size w (w.alloc o).drew.drew := below_grown (below_drew1 w o) (grownBy_drew _ none) (fun g e => by cases e)
set_option maxRecDepth 100000 in
set_option maxHeartbeats 3200000 in
theorem repeat_2 {w : World} {B : Nat} {v0 v1 v2 v3 v4 v5 : Value} (hB : Blk w B #[v0, v1, v2, v3, v4, v5] 189) (o : ∀ u ∈ [v0, v1, v2, v3, v4, v5], u.oneCell' = true) :
    Calls Tryz.prog 171 #[.slice (some ⟨B, 0, none⟩) 1 1, .int .i64 2] w fun e w' => ∃ v, e = .returned v ∧ w'.ownsRow w.heap.size 189 6 v 2 [v0, v1, v2, v3, v4, v5, v0, v1, v2, v3, v4, v5] ∧ Below w.heap.size w w' := by
  have hmk := make_2
  have hcp := copy_new w #[.string ⟨#[]⟩, .int .i64 0, .int .i64 0, .int .i64 0, .slice none 0 0, .slice none 0 0, .string ⟨#[]⟩, .int .i64 0, .int .i64 0, .int .i64 0, .slice none 0 0, .slice none 0 0] 0 2 2 ⟨B, 0, none⟩ 1 1 1 [v0, v1, v2, v3, v4, v5] #[v0, v1, v2, v3, v4, v5, .string ⟨#[]⟩, .int .i64 0, .int .i64 0, .int .i64 0, .slice none 0 0, .slice none 0 0] rfl rfl (fun j u hu => by rw [addr_add, Nat.zero_add, (hB.alloc _).cell]; simpa using hu) (by simp) o rfl
  have hcp1 : (Builtin.copy_ #[111, 111] 3 #[.slice (some ⟨w.heap.size, 6, none⟩) 1 1, .slice (some ⟨w.heap.size, 0, none⟩) 1 2]).run Tryz.prog ((w.alloc (.cells #[v0, v1, v2, v3, v4, v5, .string ⟨#[]⟩, .int .i64 0, .int .i64 0, .int .i64 0, .slice none 0 0, .slice none 0 0] 189)).drew) = .ok (goInt 1) ((w.alloc (.cells #[v0, v1, v2, v3, v4, v5, v0, v1, v2, v3, v4, v5] 189)).drew) :=
    copy_new (w.drew) #[v0, v1, v2, v3, v4, v5, .string ⟨#[]⟩, .int .i64 0, .int .i64 0, .int .i64 0, .slice none 0 0, .slice none 0 0] 6 1 1 ⟨w.heap.size, 0, none⟩ 1 2 1 [v0, v1, v2, v3, v4, v5] #[v0, v1, v2, v3, v4, v5, v0, v1, v2, v3, v4, v5] rfl rfl (fun j u hu => by rw [addr_add, Nat.zero_add]; refine ((Blk.new (w.drew) #[v0, v1, v2, v3, v4, v5, .string ⟨#[]⟩, .int .i64 0, .int .i64 0, .int .i64 0, .slice none 0 0, .slice none 0 0] 189).cell j).trans ?_; exact pre_get hu) (by simp) o rfl
  go_enter Tryz.func171, Tryz.ntmps171
  go_wp2_with (go_at_call 204; refine (mul_2 _).mono ?_; rintro e w1 ⟨rfl, he⟩; rw [he]; clear he)
  go_loopw [8] (fun n wr => (n = .int .i64 1 ∧ wr = (w.alloc (.cells #[v0, v1, v2, v3, v4, v5, .string ⟨#[]⟩, .int .i64 0, .int .i64 0, .int .i64 0, .slice none 0 0, .slice none 0 0] 189))) ∨ (n = .int .i64 2 ∧ wr = (w.alloc (.cells #[v0, v1, v2, v3, v4, v5, v0, v1, v2, v3, v4, v5] 189)).drew)) (fun n _ => 2 - (intOf n).toNat)
  case atStart => exact .inl ⟨rfl, rfl⟩
  case round =>
    rcases hrel with ⟨rfl, rfl⟩ | ⟨rfl, rfl⟩
    · go_wp2
      go_region
      go_wp2
      go_roundw
      case rel => exact .inr (⟨rfl, trivial⟩)
      case measure => simp [intOf]
    · go_wp2
      go_ret
      exact ⟨_, rfl, ⟨rfl, .inr ⟨w.heap.size, 2, _, rfl, Nat.le_refl _, heap_alloc_new (w.drew) _, Nat.le_refl _, by unfold maxLen; decide, rfl, rfl⟩⟩, below_drew1 w _⟩
set_option maxRecDepth 100000 in
set_option maxHeartbeats 3200000 in
theorem repeat_3 {w : World} {B : Nat} {v0 v1 v2 v3 v4 v5 : Value} (hB : Blk w B #[v0, v1, v2, v3, v4, v5] 189) (o : ∀ u ∈ [v0, v1, v2, v3, v4, v5], u.oneCell' = true) :
    Calls Tryz.prog 171 #[.slice (some ⟨B, 0, none⟩) 1 1, .int .i64 3] w fun e w' => ∃ v, e = .returned v ∧ w'.ownsRow w.heap.size 189 6 v 3 [v0, v1, v2, v3, v4, v5, v0, v1, v2, v3, v4, v5, v0, v1, v2, v3, v4, v5] ∧ Below w.heap.size w w' := by
  have hmk := make_3
  have hcp := copy_new w #[.string ⟨#[]⟩, .int .i64 0, .int .i64 0, .int .i64 0, .slice none 0 0, .slice none 0 0, .string ⟨#[]⟩, .int .i64 0, .int .i64 0, .int .i64 0, .slice none 0 0, .slice none 0 0, .string ⟨#[]⟩, .int .i64 0, .int .i64 0, .int .i64 0, .slice none 0 0, .slice none 0 0] 0 3 3 ⟨B, 0, none⟩ 1 1 1 [v0, v1, v2, v3, v4, v5] #[v0, v1, v2, v3, v4, v5, .string ⟨#[]⟩, .int .i64 0, .int .i64 0, .int .i64 0, .slice none 0 0, .slice none 0 0, .string ⟨#[]⟩, .int .i64 0, .int .i64 0, .int .i64 0, .slice none 0 0, .slice none 0 0] rfl rfl (fun j u hu => by rw [addr_add, Nat.zero_add, (hB.alloc _).cell]; simpa using hu) (by simp) o rfl
  have hcp1 : (Builtin.copy_ #[111, 111] 3 #[.slice (some ⟨w.heap.size, 6, none⟩) 2 2, .slice (some ⟨w.heap.size, 0, none⟩) 1 3]).run Tryz.prog ((w.alloc (.cells #[v0, v1, v2, v3, v4, v5, .string ⟨#[]⟩, .int .i64 0, .int .i64 0, .int .i64 0, .slice none 0 0, .slice none 0 0, .string ⟨#[]⟩, .int .i64 0, .int .i64 0, .int .i64 0, .slice none 0 0, .slice none 0 0] 189)).drew) = .ok (goInt 1) ((w.alloc (.cells #[v0, v1, v2, v3, v4, v5, v0, v1, v2, v3, v4, v5, .string ⟨#[]⟩, .int .i64 0, .int .i64 0, .int .i64 0, .slice none 0 0, .slice none 0 0] 189)).drew) :=
    copy_new (w.drew) #[v0, v1, v2, v3, v4, v5, .string ⟨#[]⟩, .int .i64 0, .int .i64 0, .int .i64 0, .slice none 0 0, .slice none 0 0, .string ⟨#[]⟩, .int .i64 0, .int .i64 0, .int .i64 0, .slice none 0 0, .slice none 0 0] 6 2 2 ⟨w.heap.size, 0, none⟩ 1 3 1 [v0, v1, v2, v3, v4, v5] #[v0, v1, v2, v3, v4, v5, v0, v1, v2, v3, v4, v5, .string ⟨#[]⟩, .int .i64 0, .int .i64 0, .int .i64 0, .slice none 0 0, .slice none 0 0] rfl rfl (fun j u hu => by rw [addr_add, Nat.zero_add]; refine ((Blk.new (w.drew) #[v0, v1, v2, v3, v4, v5, .string ⟨#[]⟩, .int .i64 0, .int .i64 0, .int .i64 0, .slice none 0 0, .slice none 0 0, .string ⟨#[]⟩, .int .i64 0, .int .i64 0, .int .i64 0, .slice none 0 0, .slice none 0 0] 189).cell j).trans ?_; exact pre_get hu) (by simp) o rfl
  have hcp2 : (Builtin.copy_ #[111, 111] 3 #[.slice (some ⟨w.heap.size, 12, none⟩) 1 1, .slice (some ⟨w.heap.size, 0, none⟩) 2 3]).run Tryz.prog ((w.alloc (.cells #[v0, v1, v2, v3, v4, v5, v0, v1, v2, v3, v4, v5, .string ⟨#[]⟩, .int .i64 0, .int .i64 0, .int .i64 0, .slice none 0 0, .slice none 0 0] 189)).drew.drew) = .ok (goInt 1) ((w.alloc (.cells #[v0, v1, v2, v3, v4, v5, v0, v1, v2, v3, v4, v5, v0, v1, v2, v3, v4, v5] 189)).drew.drew) :=
    copy_new (w.drew.drew) #[v0, v1, v2, v3, v4, v5, v0, v1, v2, v3, v4, v5, .string ⟨#[]⟩, .int .i64 0, .int .i64 0, .int .i64 0, .slice none 0 0, .slice none 0 0] 12 1 1 ⟨w.heap.size, 0, none⟩ 2 3 1 [v0, v1, v2, v3, v4, v5] #[v0, v1, v2, v3, v4, v5, v0, v1, v2, v3, v4, v5, v0, v1, v2, v3, v4, v5] rfl rfl (fun j u hu => by rw [addr_add, Nat.zero_add]; refine ((Blk.new (w.drew.drew) #[v0, v1, v2, v3, v4, v5, v0, v1, v2, v3, v4, v5, .string ⟨#[]⟩, .int .i64 0, .int .i64 0, .int .i64 0, .slice none 0 0, .slice none 0 0] 189).cell j).trans ?_; exact pre_get hu) (by simp) o rfl
  go_enter Tryz.func171, Tryz.ntmps171
  go_wp2_with (go_at_call 204; refine (mul_3 _).mono ?_; rintro e w1 ⟨rfl, he⟩; rw [he]; clear he)
  go_loopw [8] (fun n wr => (n = .int .i64 1 ∧ wr = (w.alloc (.cells #[v0, v1, v2, v3, v4, v5, .string ⟨#[]⟩, .int .i64 0, .int .i64 0, .int .i64 0, .slice none 0 0, .slice none 0 0, .string ⟨#[]⟩, .int .i64 0, .int .i64 0, .int .i64 0, .slice none 0 0, .slice none 0 0] 189))) ∨ (n = .int .i64 2 ∧ wr = (w.alloc (.cells #[v0, v1, v2, v3, v4, v5, v0, v1, v2, v3, v4, v5, .string ⟨#[]⟩, .int .i64 0, .int .i64 0, .int .i64 0, .slice none 0 0, .slice none 0 0] 189)).drew) ∨ (n = .int .i64 3 ∧ wr = (w.alloc (.cells #[v0, v1, v2, v3, v4, v5, v0, v1, v2, v3, v4, v5, v0, v1, v2, v3, v4, v5] 189)).drew.drew)) (fun n _ => 3 - (intOf n).toNat)
  case atStart => exact .inl ⟨rfl, rfl⟩
  case round =>
    rcases hrel with ⟨rfl, rfl⟩ | ⟨rfl, rfl⟩ | ⟨rfl, rfl⟩
    · go_wp2
      go_region
      go_wp2
      go_roundw
      case rel => exact .inr (.inl ⟨rfl, trivial⟩)
      case measure => simp [intOf]
    · go_wp2
      go_region
      go_wp2
      go_roundw
      case rel => exact .inr (.inr (⟨rfl, trivial⟩))
      case measure => simp [intOf]
    · go_wp2
      go_ret
      exact ⟨_, rfl, ⟨rfl, .inr ⟨w.heap.size, 3, _, rfl, Nat.le_refl _, heap_alloc_new (w.drew.drew) _, Nat.le_refl _, by unfold maxLen; decide, rfl, rfl⟩⟩, below_drew2 w _⟩
set_option maxRecDepth 100000 in
set_option maxHeartbeats 3200000 in
theorem repeat_4 {w : World} {B : Nat} {v0 v1 v2 v3 v4 v5 : Value} (hB : Blk w B #[v0, v1, v2, v3, v4, v5] 189) (o : ∀ u ∈ [v0, v1, v2, v3, v4, v5], u.oneCell' = true) :
    Calls Tryz.prog 171 #[.slice (some ⟨B, 0, none⟩) 1 1, .int .i64 4] w fun e w' => ∃ v, e = .returned v ∧ w'.ownsRow w.heap.size 189 6 v 4 [v0, v1, v2, v3, v4, v5, v0, v1, v2, v3, v4, v5, v0, v1, v2, v3, v4, v5, v0, v1, v2, v3, v4, v5] ∧ Below w.heap.size w w' := by
  have hmk := make_4
  have oo : ∀ u ∈ [v0, v1, v2, v3, v4, v5, v0, v1, v2, v3, v4, v5], u.oneCell' = true := fun u hu => by rcases List.mem_append.1 (show u ∈ [v0, v1, v2, v3, v4, v5] ++ [v0, v1, v2, v3, v4, v5] from hu) with h | h <;> exact o u h
  have hcp := copy_new w #[.string ⟨#[]⟩, .int .i64 0, .int .i64 0, .int .i64 0, .slice none 0 0, .slice none 0 0, .string ⟨#[]⟩, .int .i64 0, .int .i64 0, .int .i64 0, .slice none 0 0, .slice none 0 0, .string ⟨#[]⟩, .int .i64 0, .int .i64 0, .int .i64 0, .slice none 0 0, .slice none 0 0, .string ⟨#[]⟩, .int .i64 0, .int .i64 0, .int .i64 0, .slice none 0 0, .slice none 0 0] 0 4 4 ⟨B, 0, none⟩ 1 1 1 [v0, v1, v2, v3, v4, v5] #[v0, v1, v2, v3, v4, v5, .string ⟨#[]⟩, .int .i64 0, .int .i64 0, .int .i64 0, .slice none 0 0, .slice none 0 0, .string ⟨#[]⟩, .int .i64 0, .int .i64 0, .int .i64 0, .slice none 0 0, .slice none 0 0, .string ⟨#[]⟩, .int .i64 0, .int .i64 0, .int .i64 0, .slice none 0 0, .slice none 0 0] rfl rfl (fun j u hu => by rw [addr_add, Nat.zero_add, (hB.alloc _).cell]; simpa using hu) (by simp) o rfl
  have hcp1 : (Builtin.copy_ #[111, 111] 3 #[.slice (some ⟨w.heap.size, 6, none⟩) 3 3, .slice (some ⟨w.heap.size, 0, none⟩) 1 4]).run Tryz.prog ((w.alloc (.cells #[v0, v1, v2, v3, v4, v5, .string ⟨#[]⟩, .int .i64 0, .int .i64 0, .int .i64 0, .slice none 0 0, .slice none 0 0, .string ⟨#[]⟩, .int .i64 0, .int .i64 0, .int .i64 0, .slice none 0 0, .slice none 0 0, .string ⟨#[]⟩, .int .i64 0, .int .i64 0, .int .i64 0, .slice none 0 0, .slice none 0 0] 189)).drew) = .ok (goInt 1) ((w.alloc (.cells #[v0, v1, v2, v3, v4, v5, v0, v1, v2, v3, v4, v5, .string ⟨#[]⟩, .int .i64 0, .int .i64 0, .int .i64 0, .slice none 0 0, .slice none 0 0, .string ⟨#[]⟩, .int .i64 0, .int .i64 0, .int .i64 0, .slice none 0 0, .slice none 0 0] 189)).drew) :=
    copy_new (w.drew) #[v0, v1, v2, v3, v4, v5, .string ⟨#[]⟩, .int .i64 0, .int .i64 0, .int .i64 0, .slice none 0 0, .slice none 0 0, .string ⟨#[]⟩, .int .i64 0, .int .i64 0, .int .i64 0, .slice none 0 0, .slice none 0 0, .string ⟨#[]⟩, .int .i64 0, .int .i64 0, .int .i64 0, .slice none 0 0, .slice none 0 0] 6 3 3 ⟨w.heap.size, 0, none⟩ 1 4 1 [v0, v1, v2, v3, v4, v5] #[v0, v1, v2, v3, v4, v5, v0, v1, v2, v3, v4, v5, .string ⟨#[]⟩, .int .i64 0, .int .i64 0, .int .i64 0, .slice none 0 0, .slice none 0 0, .string ⟨#[]⟩, .int .i64 0, .int .i64 0, .int .i64 0, .slice none 0 0, .slice none 0 0] rfl rfl (fun j u hu => by rw [addr_add, Nat.zero_add]; refine ((Blk.new (w.drew) #[v0, v1, v2, v3, v4, v5, .string ⟨#[]⟩, .int .i64 0, .int .i64 0, .int .i64 0, .slice none 0 0, .slice none 0 0, .string ⟨#[]⟩, .int .i64 0, .int .i64 0, .int .i64 0, .slice none 0 0, .slice none 0 0, .string ⟨#[]⟩, .int .i64 0, .int .i64 0, .int .i64 0, .slice none 0 0, .slice none 0 0] 189).cell j).trans ?_; exact pre_get hu) (by simp) o rfl
  have hcp2 : (Builtin.copy_ #[111, 111] 3 #[.slice (some ⟨w.heap.size, 12, none⟩) 2 2, .slice (some ⟨w.heap.size, 0, none⟩) 2 4]).run Tryz.prog ((w.alloc (.cells #[v0, v1, v2, v3, v4, v5, v0, v1, v2, v3, v4, v5, .string ⟨#[]⟩, .int .i64 0, .int .i64 0, .int .i64 0, .slice none 0 0, .slice none 0 0, .string ⟨#[]⟩, .int .i64 0, .int .i64 0, .int .i64 0, .slice none 0 0, .slice none 0 0] 189)).drew.drew) = .ok (goInt 2) ((w.alloc (.cells #[v0, v1, v2, v3, v4, v5, v0, v1, v2, v3, v4, v5, v0, v1, v2, v3, v4, v5, v0, v1, v2, v3, v4, v5] 189)).drew.drew) :=
    copy_new (w.drew.drew) #[v0, v1, v2, v3, v4, v5, v0, v1, v2, v3, v4, v5, .string ⟨#[]⟩, .int .i64 0, .int .i64 0, .int .i64 0, .slice none 0 0, .slice none 0 0, .string ⟨#[]⟩, .int .i64 0, .int .i64 0, .int .i64 0, .slice none 0 0, .slice none 0 0] 12 2 2 ⟨w.heap.size, 0, none⟩ 2 4 2 [v0, v1, v2, v3, v4, v5, v0, v1, v2, v3, v4, v5] #[v0, v1, v2, v3, v4, v5, v0, v1, v2, v3, v4, v5, v0, v1, v2, v3, v4, v5, v0, v1, v2, v3, v4, v5] rfl rfl (fun j u hu => by rw [addr_add, Nat.zero_add]; refine ((Blk.new (w.drew.drew) #[v0, v1, v2, v3, v4, v5, v0, v1, v2, v3, v4, v5, .string ⟨#[]⟩, .int .i64 0, .int .i64 0, .int .i64 0, .slice none 0 0, .slice none 0 0, .string ⟨#[]⟩, .int .i64 0, .int .i64 0, .int .i64 0, .slice none 0 0, .slice none 0 0] 189).cell j).trans ?_; exact pre_get hu) (by simp) oo rfl
  go_enter Tryz.func171, Tryz.ntmps171
  go_wp2_with (go_at_call 204; refine (mul_4 _).mono ?_; rintro e w1 ⟨rfl, he⟩; rw [he]; clear he)
  go_loopw [8] (fun n wr => (n = .int .i64 1 ∧ wr = (w.alloc (.cells #[v0, v1, v2, v3, v4, v5, .string ⟨#[]⟩, .int .i64 0, .int .i64 0, .int .i64 0, .slice none 0 0, .slice none 0 0, .string ⟨#[]⟩, .int .i64 0, .int .i64 0, .int .i64 0, .slice none 0 0, .slice none 0 0, .string ⟨#[]⟩, .int .i64 0, .int .i64 0, .int .i64 0, .slice none 0 0, .slice none 0 0] 189))) ∨ (n = .int .i64 2 ∧ wr = (w.alloc (.cells #[v0, v1, v2, v3, v4, v5, v0, v1, v2, v3, v4, v5, .string ⟨#[]⟩, .int .i64 0, .int .i64 0, .int .i64 0, .slice none 0 0, .slice none 0 0, .string ⟨#[]⟩, .int .i64 0, .int .i64 0, .int .i64 0, .slice none 0 0, .slice none 0 0] 189)).drew) ∨ (n = .int .i64 4 ∧ wr = (w.alloc (.cells #[v0, v1, v2, v3, v4, v5, v0, v1, v2, v3, v4, v5, v0, v1, v2, v3, v4, v5, v0, v1, v2, v3, v4, v5] 189)).drew.drew)) (fun n _ => 4 - (intOf n).toNat)
  case atStart => exact .inl ⟨rfl, rfl⟩
  case round =>
    rcases hrel with ⟨rfl, rfl⟩ | ⟨rfl, rfl⟩ | ⟨rfl, rfl⟩
    · go_wp2
      go_region
      go_wp2
      go_roundw
      case rel => exact .inr (.inl ⟨rfl, trivial⟩)
      case measure => simp [intOf]
    · go_wp2
      go_region
      go_wp2
      go_roundw
      case rel => exact .inr (.inr (⟨rfl, trivial⟩))
      case measure => simp [intOf]
    · go_wp2
      go_ret
      exact ⟨_, rfl, ⟨rfl, .inr ⟨w.heap.size, 4, _, rfl, Nat.le_refl _, heap_alloc_new (w.drew.drew) _, Nat.le_refl _, by unfold maxLen; decide, rfl, rfl⟩⟩, below_drew2 w _⟩
end Go.Proofs.YtddbjcfdmdbmkaaGreatDoor

namespace Go.Proofs.YtddbjcfdmdbmkaaGreatDoor
open Go.RowKit

def ofPartP (rec : List PPart → List (List PPart)) (p : PPart) : List (List PPart) :=
  if isStepB p then [List.replicate p.times p] else if p.choices.isEmpty then [[p]] else p.choices.flatMap rec
def ofSeqP : Nat → List PPart → List (List PPart)
  | 0, _ => [[]]
  | n + 1, l => l.foldl (fun all p => eachP all (ofPartP (ofSeqP n) p)) [[]]
def ofAcc (n : Nat) (l : List PPart) (k : Nat) : List (List PPart) := (l.take k).foldl (fun all p => eachP all (ofPartP (ofSeqP n) p)) [[]]
theorem ofAcc_succ (n : Nat) (l : List PPart) (k : Nat) (h : k < l.length) : ofAcc n l (k + 1) = eachP (ofAcc n l k) (ofPartP (ofSeqP n) l[k]) := by
  unfold ofAcc; rw [List.take_succ_eq_append_getElem h, List.foldl_append]; rfl
theorem ofAcc_all (n : Nat) (l : List PPart) : ofAcc n l l.length = ofSeqP (n + 1) l := by unfold ofAcc; rw [List.take_length]; rfl
def WF : Nat → List PPart → Prop
  | 0, _ => False
  | n + 1, l => l ≠ [] ∧ (sizeP (n + 1) l).1 ≤ 16 ∧ bnd (n + 1) l ≤ 100000 ∧ ∀ p ∈ l, (isStepB p = true → 1 ≤ p.times ∧ p.times ≤ 4 ∧ p.choices = []) ∧ ∀ c ∈ p.choices, WF n c

theorem eachP_mem {hs ts : List (List PPart)} {x : List PPart} (h : x ∈ eachP hs ts) : ∃ a ∈ hs, ∃ b ∈ ts, x = a ++ b := by
  unfold eachP at h
  obtain ⟨a, ha, hx⟩ := List.mem_flatMap.1 h
  obtain ⟨b, hb, rfl⟩ := List.mem_map.1 hx
  exact ⟨a, ha, b, hb, rfl⟩
structure Fit (ps : List (List PPart)) (cnt len : Nat) : Prop where
  ne : ∀ x ∈ ps, x ≠ []
  len : ∀ x ∈ ps, x.length ≤ len
  cnt : ps.length = cnt
  pos : 0 < ps.length
theorem sum_map_len (c : List (List PPart)) (rec : List PPart → List (List PPart)) : (c.flatMap rec).length = (c.map fun x => (rec x).length).sum := by
  induction c with
  | nil => rfl
  | cons a c ih => simp [ih]
theorem fold_count (c : List (List PPart)) (f : List PPart → Nat × Nat) (a : Nat × Nat) : (c.foldl (fun a c => (a.1 + (f c).1, max a.2 (f c).2)) a).1 = a.1 + (c.map fun x => (f x).1).sum := by
  induction c generalizing a with
  | nil => simp
  | cons x c ih => rw [List.foldl_cons, ih]; simp; omega
theorem part_fit {n : Nat} {p : PPart} (hw : (isStepB p = true → 1 ≤ p.times ∧ p.times ≤ 4 ∧ p.choices = [])) (ih : ∀ c ∈ p.choices, Fit (ofSeqP n c) (sizeP n c).1 (bnd n c)) :
    Fit (ofPartP (ofSeqP n) p) (sizePartP (sizeP n) p).1 (p.times + 1 + (p.choices.map fun c => bnd n c + 1).sum) := by
  unfold ofPartP sizePartP
  by_cases hs : isStepB p = true
  · obtain ⟨h1, h4, hc⟩ := hw hs
    rw [if_pos hs, hc]
    refine ⟨fun x hx e => ?_, fun x hx => ?_, rfl, by simp⟩
    · simp only [List.mem_singleton] at hx
      rw [hx] at e
      have := congrArg List.length e
      simp at this; omega
    · simp only [List.mem_singleton] at hx
      subst hx; simp
      try omega
  · rw [if_neg hs]
    by_cases hc : p.choices.isEmpty = true
    · rw [if_pos hc, if_pos hc]
      refine ⟨fun x hx e => ?_, fun x hx => ?_, rfl, by simp⟩
      · simp only [List.mem_singleton] at hx
        rw [hx] at e; cases e
      · simp only [List.mem_singleton] at hx
        subst hx; simp
        try omega
    · rw [if_neg hc, if_neg hc]
      have hne : p.choices ≠ [] := by simpa using hc
      refine ⟨fun x hx => ?_, fun x hx => ?_, ?_, ?_⟩
      · obtain ⟨c, hc, hx⟩ := List.mem_flatMap.1 hx; exact (ih c hc).ne x hx
      · obtain ⟨c, hc, hx⟩ := List.mem_flatMap.1 hx
        have := (ih c hc).len x hx
        have h2 : bnd n c + 1 ≤ (p.choices.map fun c => bnd n c + 1).sum := mem_le_sum (List.mem_map.2 ⟨c, hc, rfl⟩)
        omega
      · rw [sum_map_len, fold_count]
        simp only [Nat.zero_add]
        congr 1
        exact List.map_congr_left (fun c hc => (ih c hc).cnt)
      · obtain ⟨c, rest, e⟩ := List.exists_cons_of_ne_nil hne
        have hm : c ∈ p.choices := by rw [e]; simp
        have := (ih c hm).pos
        rw [sum_map_len]
        exact Nat.lt_of_lt_of_le this (mem_le_sum (List.mem_map.2 ⟨c, hm, rfl⟩))
theorem acc_fit {n : Nat} {l : List PPart} (hp : ∀ p ∈ l, Fit (ofPartP (ofSeqP n) p) (sizePartP (sizeP n) p).1 (p.times + 1 + (p.choices.map fun c => bnd n c + 1).sum)) : ∀ k, k ≤ l.length → (seqAcc (sizeP n) l k).1 ≤ 16 →
    (ofAcc n l k).length = (seqAcc (sizeP n) l k).1 ∧ 0 < (ofAcc n l k).length ∧ (∀ x ∈ ofAcc n l k, (0 < k → x ≠ []) ∧ x.length ≤ ((l.map fun p => p.times + 1 + (p.choices.map fun c => bnd n c + 1).sum).take k).sum) ∧ ∀ j, j ≤ k → (seqAcc (sizeP n) l j).1 ≤ 16 := by
  intro k
  induction k with
  | zero =>
    intro _ h
    refine ⟨rfl, by show 0 < 1; omega, fun x hx => ?_, fun j hj => by rw [show j = 0 by omega]; exact h⟩
    have e : x = [] := by simpa [ofAcc] using hx
    exact ⟨fun h => absurd h (by omega), by rw [e]; simp⟩
  | succ k ih =>
    intro hk h
    have hs := seqAcc_succ (sizeP n) l k (by omega)
    have hf := hp _ (List.getElem_mem (show k < l.length by omega))
    rw [hs] at h
    have hm : min ((seqAcc (sizeP n) l k).1 * (sizePartP (sizeP n) l[k]).1) 17 ≤ 16 := h
    have hc1 : 1 ≤ (sizePartP (sizeP n) l[k]).1 := by have := hf.pos; have := hf.cnt; omega
    have hprod : (seqAcc (sizeP n) l k).1 * (sizePartP (sizeP n) l[k]).1 ≤ 16 := by omega
    have hle : (seqAcc (sizeP n) l k).1 ≤ 16 := Nat.le_trans (Nat.le_mul_of_pos_right _ hc1) hprod
    obtain ⟨i1, i2, i3, i4⟩ := ih (by omega) hle
    have he : (seqAcc (sizeP n) l (k + 1)).1 = (seqAcc (sizeP n) l k).1 * (sizePartP (sizeP n) l[k]).1 := by
      rw [hs]; show min _ 17 = _; omega
    rw [ofAcc_succ n l k (by omega)]
    refine ⟨by rw [eachP_len, i1, hf.cnt, he], by rw [eachP_len]; exact Nat.mul_pos i2 hf.pos, fun x hx => ?_, fun j hj => ?_⟩
    · obtain ⟨a, ha, b, hb, rfl⟩ := eachP_mem hx
      refine ⟨fun _ e => hf.ne b hb (List.append_eq_nil_iff.1 e).2, ?_⟩
      have h1 := (i3 a ha).2
      have h2 := hf.len b hb
      rw [List.take_succ_eq_append_getElem (by rw [List.length_map]; omega), List.sum_append, List.length_append]
      simp only [List.getElem_map, List.sum_cons, List.sum_nil]
      omega
    · by_cases e : j = k + 1
      · rw [e, he]; exact hprod
      · exact i4 j (by omega)
theorem seq_fit : ∀ n l, WF n l → Fit (ofSeqP n l) (sizeP n l).1 (bnd n l) := by
  intro n
  induction n with
  | zero => intro l h; exact h.elim
  | succ n ih =>
    rintro l ⟨hne, h16, _, hp⟩
    have e : seqAcc (sizeP n) l l.length = sizeP (n + 1) l := by unfold seqAcc; rw [List.take_length]; rfl
    obtain ⟨i1, i2, i3, _⟩ := acc_fit (n := n) (l := l) (fun p hpm => part_fit (hp p hpm).1 (fun c hc => ih c ((hp p hpm).2 c hc))) l.length (Nat.le_refl _) (by rw [e]; exact h16)
    rw [e, ofAcc_all] at i1
    rw [ofAcc_all] at i2 i3
    have hl : 0 < l.length := List.length_pos_iff.2 hne
    exact ⟨fun x hx => (i3 x hx).1 hl, fun x hx => Nat.le_trans (i3 x hx).2 (sum_take_le _ _), i1, i2⟩
end Go.Proofs.YtddbjcfdmdbmkaaGreatDoor
