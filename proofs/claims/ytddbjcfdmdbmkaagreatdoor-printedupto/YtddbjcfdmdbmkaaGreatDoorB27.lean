import Derived.Test.YtddbjcfdmdbmkaaGreatDoorB26
import Derived.Test.YtddbjcfdmdbmkaaGreatDoorB01
import Derived.Deep.RegionLawGrows
set_option linter.unusedVariables false
set_option linter.unusedSimpArgs false
namespace Go.Proofs.YtddbjcfdmdbmkaaGreatDoor
open Go.RowKit

theorem Tryz.infoSeenP : (Tryz.prog.info? 156).map (fun i => (i.zero, i.size, i.bytes)) = some (some (.pointer none), 1, 8) := by kernel_rfl
def ptrV (p : Nat) : Value := .pointer (some ⟨p, 0, none⟩)
def TakenAt (w : World) (ta : Option Addr) (tc : Nat) (ps : List Nat) : Prop := (ps = [] ∧ ta = none ∧ tc = 0) ∨ (ps.length ≤ tc ∧ ∃ g, ta = some ⟨g, 0, none⟩ ∧ g < w.heap.size ∧ ∀ i, (h : i < ps.length) → w.cell? ⟨g, i, none⟩ = some (ptrV ps[i]))
set_option maxRecDepth 100000 in
set_option maxHeartbeats 800000 in
theorem clip_p {w : World} {ta : Option Addr} {tc : Nat} {ps : List Nat} (h : TakenAt w ta tc ps) :
    Calls Tryz.prog 153 #[.slice ta ps.length tc] w fun e w' => e = .returned (.slice ta ps.length ps.length) ∧ w' = w := by
  rcases h with ⟨rfl, rfl, rfl⟩ | ⟨hc, g, rfl, hg, _⟩
  · go_enter Tryz.func153, Tryz.ntmps153
    go_wp2
    go_ret
    exact ⟨rfl, rfl⟩
  · have h1 : (ps.length : Int) ≤ (tc : Int) := by omega
    have h0 : (0 : Int) ≤ (ps.length : Int) := by omega
    go_enter Tryz.func153, Tryz.ntmps153
    go_wp2
    go_ret
    exact ⟨by first | rfl | simp, rfl⟩
theorem taken_none {w : World} {ta : Option Addr} {tc : Nat} {ps : List Nat} (h : TakenAt w ta tc ps) : ta = none → ps.length = 0 ∧ ps.length = 0 := by
  intro e
  rcases h with ⟨rfl, _⟩ | ⟨_, g, e2, _⟩
  · exact ⟨rfl, rfl⟩
  · rw [e] at e2; cases e2
theorem taken_cells {w : World} {ta : Option Addr} {tc : Nat} {ps : List Nat} (h : TakenAt w ta tc ps) : ∀ b, ta = some b → ∀ j u, (ps.map fun p => Value.pointer (some ⟨p, 0, none⟩))[j]? = some u → w.cell? (b.add j) = some u := by
  intro b e j u hu
  rcases h with ⟨rfl, _⟩ | ⟨_, g, e2, _, hc⟩
  · simp at hu
  · rw [e] at e2
    cases e2
    rw [addr_add, Nat.zero_add]
    rw [List.getElem?_map] at hu
    obtain ⟨x, hx, rfl⟩ := Option.map_eq_some_iff.1 hu
    obtain ⟨hj, rfl⟩ := List.getElem?_eq_some_iff.1 hx
    exact hc j hj
theorem row_base_le {w : World} {b b' : Nat} {e : TypeId} {s : Nat} {v : Value} {n : Nat} {xs : List Value} (h : w.ownsRow b e s v n xs) (hb : b' ≤ b) : w.ownsRow b' e s v n xs := by
  refine ⟨h.1, ?_⟩
  rcases h.2 with h | ⟨g, cap, cur, h1, h2, h3⟩
  · exact .inl h
  · exact .inr ⟨g, cap, cur, h1, Nat.le_trans hb h2, h3⟩
theorem row_some {w : World} {base e s n : Nat} {v : Value} {xs : List Value} (h : w.ownsRow base e s v (n + 1) xs) : ∃ g cap, v = .slice (some ⟨g, 0, none⟩) (n + 1) cap := by
  rcases h.2 with ⟨_, h0⟩ | ⟨g, cap, cur, h, _⟩
  · omega
  · exact ⟨g, cap, h⟩
set_option maxRecDepth 100000 in
set_option maxHeartbeats 3200000 in
theorem with_p {w : World} {sa : Option Addr} {n c : Nat} {ta : Option Addr} {tc : Nat} {ps : List Nat} {ip : Nat} (h : TakenAt w ta tc ps) (hl : ps.length ≤ 100000) :
    Calls Tryz.prog 110 #[.agg #[.slice sa n c, .slice ta ps.length tc], ptrV ip] w fun e w' => ∃ g' cap', e = .returned (.agg #[.slice sa n c, .slice (some ⟨g', 0, none⟩) (ps.length + 1) cap']) ∧ Below w.heap.size w w' ∧ w'.ownsRow w.heap.size 156 1 (.slice (some ⟨g', 0, none⟩) (ps.length + 1) cap') (ps.length + 1) ((ps ++ [ip]).map ptrV) := by
  obtain ⟨i0, hi0, hz0, hz1, hz2⟩ := info_parts Tryz.infoSeenP
  unfold ptrV
  have hNew := Blk.new w #[.slice sa n c, .slice ta ps.length tc] 163
  have hN2 := hNew.alloc (.cells #[.slice none 0 0, .slice none 0 0] 163)
  have hR2 := Blk.new (w.alloc (.cells #[.slice sa n c, .slice ta ps.length tc] 163)) #[.slice none 0 0, .slice none 0 0] 163
  rw [alloc_size] at hR2
  have hb0 : Below w.heap.size w ((w.alloc (.cells #[.slice sa n c, .slice ta ps.length tc] 163)).alloc (.cells #[.slice none 0 0, .slice none 0 0] 163)) := ((Below.refl _ w).alloc (Nat.le_refl _) _).alloc (by simp) _
  have hTk : ∀ W, Below w.heap.size w W → TakenAt W ta tc ps := fun W hW => by
    rcases h with h | ⟨a, g, b, d, e⟩
    · exact .inl h
    · exact .inr ⟨a, g, b, Nat.lt_of_lt_of_le d hW.size, fun i hi => (hW.cell (p := ⟨g, i, none⟩) d).trans (e i hi)⟩
  have hclip := fun W hW => clip_p (hTk W hW)
  go_enter Tryz.func110, Tryz.ntmps110
  go_upto_region 1 with fail
  have n0 : ((w.alloc (.cells #[.slice sa n c, .slice ta ps.length tc] 163)).alloc (.cells #[.slice none 0 0, .slice none 0 0] 163)).cell? ⟨w.heap.size, 0, none⟩ = some (.slice sa n c) := hN2.cell 0
  have n1 : ((w.alloc (.cells #[.slice sa n c, .slice ta ps.length tc] 163)).alloc (.cells #[.slice none 0 0, .slice none 0 0] 163)).cell? ⟨w.heap.size, 1, none⟩ = some (.slice ta ps.length tc) := hN2.cell 1
  have hnl := hN2.lt
  have hrl := hR2.lt
  clear hNew h
  generalize (w.alloc (.cells #[.slice sa n c, .slice ta ps.length tc] 163)).alloc (.cells #[.slice none 0 0, .slice none 0 0] 163) = W0 at *
  have hws := hb0.size
  have hbA : Below w.heap.size w (W0.alloc (.cells #[.pointer (some ⟨ip, 0, none⟩)] 156)) := hb0.alloc hb0.size _
  go_region_law (first
    | (refine step_append_grows (by rfl) _ _ 161 (by rfl) 156 i0 _ 1 8 Tryz.underlying161 hi0 hz0 hz1 hz2 rfl (by decide) ta ps.length ps.length (ps.map fun p => Value.pointer (some ⟨p, 0, none⟩)) (by rfl) (taken_none (hTk W0 hb0)) (by simp) (taken_cells (hTk _ (by first | exact hbA | exact ⟨hbA.os, hbA.tape, hbA.output, hbA.size, hbA.block⟩))) ⟨W0.heap.size, 0, none⟩ 1 1 [.pointer (some ⟨ip, 0, none⟩)] (by rfl) rfl (World.news_of_block (cs := #[.pointer (some ⟨ip, 0, none⟩)]) (t := 156) (fr := (0, 0)) (alloc_at W0 (.cells #[.pointer (some ⟨ip, 0, none⟩)] 156) W0.heap.size rfl)) (by simp [Value.oneCell']) (by omega) (by unfold maxLen; omega) (by omega) ?_; intro v' w7 hown7 hgrow7; obtain ⟨g7, cap7, rfl⟩ := row_some hown7; have hR7 := (hR2.alloc (.cells #[.pointer (some ⟨ip, 0, none⟩)] 156)).of_eq (hgrow7.block (w.heap.size + 1) (by show w.heap.size + 1 < (W0.alloc _).heap.size; simp; omega) (by simp)); have u0 := hR7.cell 0; have u1 := hR7.cell 1; have uf0 := hR7.frozen 0; have uf1 := hR7.frozen 1; have hRl7 := hR7.lt; simp at u0 u1; have hN7 := (hN2.alloc (.cells #[.pointer (some ⟨ip, 0, none⟩)] 156)).of_eq (hgrow7.block w.heap.size (by show w.heap.size < (W0.alloc _).heap.size; simp; omega) (by simp)); have z0 := hN7.cell 0; have hNl7 := hN7.lt; simp at z0)
    | (go_simp; refine (hclip _ (by first | exact hb0 | exact hbA | exact ⟨hb0.os, hb0.tape, hb0.output, hb0.size, hb0.block⟩ | exact ⟨hbA.os, hbA.tape, hbA.output, hbA.size, hbA.block⟩)).mono ?_; rintro e w5 ⟨rfl, he⟩; subst he; show _; dsimp only))
  all_goals
    have hR8 := (hR7.set 0 (.slice sa n c)).set 1 (.slice (some ⟨g7, 0, none⟩) (ps.length + 1) cap7)
    have k0 := hR8.cell 0
    have k1 := hR8.cell 1
    simp at k0 k1
    have hrow8 : ((w7.setCell ⟨w.heap.size + 1, 0, none⟩ (.slice sa n c)).setCell ⟨w.heap.size + 1, 1, none⟩ (.slice (some ⟨g7, 0, none⟩) (ps.length + 1) cap7)).ownsRow w.heap.size 156 1 (.slice (some ⟨g7, 0, none⟩) (ps.length + 1) cap7) (ps.length + 1) ((ps ++ [ip]).map fun p => Value.pointer (some ⟨p, 0, none⟩)) := by
      rw [List.map_append]
      refine row_base_le (row_of_blk hown7 fun z hz => ?_) (by have := hbA.size; show w.heap.size ≤ (W0.alloc _).heap.size; exact this)
      have hz1 : z ≠ w.heap.size + 1 := fun e => by subst e; exact blk_apart hR7 hown7 (by decide) hz
      exact (Below.heap_setCell _ _ _ _ (fun e => hz1 (by simp at e; omega))).trans (Below.heap_setCell _ _ _ _ (fun e => hz1 (by simp at e; omega)))
    have hbel8 : Below w.heap.size w ((w7.setCell ⟨w.heap.size + 1, 0, none⟩ (.slice sa n c)).setCell ⟨w.heap.size + 1, 1, none⟩ (.slice (some ⟨g7, 0, none⟩) (ps.length + 1) cap7)) := ((below_grown (w1 := (W0.alloc (.cells #[.pointer (some ⟨ip, 0, none⟩)] 156))) hbA ⟨hgrow7.os, hgrow7.tape, hgrow7.output, hgrow7.size, hgrow7.block⟩ (fun g e => by cases e)).setCell (p := ⟨w.heap.size + 1, 0, none⟩) (Nat.le_succ _) _).setCell (p := ⟨w.heap.size + 1, 1, none⟩) (Nat.le_succ _) _
    clear hown7 hgrow7
    go_wp2
    exact bodyPost_ret (v := .agg #[.slice sa n c, .slice (some ⟨g7, 0, none⟩) (ps.length + 1) cap7]) (by simp [results, Tryz.results110, go_sem, k0, k1]) rfl ⟨g7, cap7, rfl, hbel8, hrow8⟩
end Go.Proofs.YtddbjcfdmdbmkaaGreatDoor

namespace Go.Proofs.YtddbjcfdmdbmkaaGreatDoor
open Go.RowKit

set_option maxRecDepth 100000 in
set_option maxHeartbeats 1600000 in
theorem numbers_p {w : World} {sa : Option Addr} {n c : Nat} {ta : Option Addr} {tc : Nat} {ps ns : List Nat} (h : TakenAt w ta tc ps) (hl : ps.length ≤ 100000) (hn : ns.length = ps.length) (hs : ∀ i, (h : i < ps.length) → (h' : i < ns.length) → ps[i] < w.heap.size ∧ ∃ e, SeenAt w ps[i] e ns[i]) :
    Calls Tryz.prog 118 #[.agg #[.slice sa n c, .slice ta ps.length tc]] w fun e w' => ∃ v, e = .returned v ∧ w'.ownsRow w.heap.size 3 1 v ns.length (ns.map fun x => Value.int .i64 (x : Nat)) ∧ Below w.heap.size w w' := by
  obtain ⟨i0, hi0, hz0, hz1, hz2⟩ := info_parts Tryz.infoIntF
  have hN := Blk.new w #[.slice sa n c, .slice ta ps.length tc] 163
  have hb0 : Below w.heap.size w (w.alloc (.cells #[.slice sa n c, .slice ta ps.length tc] 163)) := (Below.refl _ w).alloc (Nat.le_refl _) _
  go_enter Tryz.func118, Tryz.ntmps118
  go_wp2
  go_loopw [3, 9] (fun v i wr => ∃ k : Nat, k ≤ ps.length ∧ i = .int .i64 k ∧ wr.ownsRow w.heap.size 3 1 v k ((ns.take k).map fun x => Value.int .i64 (x : Nat)) ∧ Below w.heap.size w wr) (fun _ i _ => ps.length - (intOf i).toNat)
  case atStart => exact ⟨0, Nat.zero_le _, rfl, World.ownsRow_nil _ _ _ _, hb0⟩
  case round =>
    obtain ⟨k, hk, rfl, hrow, hbel⟩ := hrel
    have hws := hbel.size
    obtain ⟨va, vb, vc, rfl⟩ := row_form hrow
    by_cases hlt : k < ps.length
    · rcases h with ⟨rfl, _⟩ | ⟨_, g, rfl, hg, hc⟩
      · simp at hlt
      · have hck := (hbel.cell (p := ⟨g, k, none⟩) hg).trans (hc k hlt)
        obtain ⟨hpl, ev, hsn⟩ := hs k hlt (by omega)
        have hsn2 := Blk.of_eq hsn (hbel.block _ hpl)
        have s5 := hsn2.cell 5
        have hsl := hsn2.lt
        simp at s5
        have HT : Hid ((ns.take (k + 1)).map (fun x => Value.int .i64 (x : Nat)) = (ns.take k).map (fun x => Value.int .i64 (x : Nat)) ++ [.int .i64 (ns[k] : Nat)]) := by show _ = _; rw [List.take_succ_eq_append_getElem (by omega), List.map_append]; rfl
        unfold ptrV at hck
        generalize ps[k] = p at *
        generalize ns[k] = nk at *
        have hki : (k : Int) < (ps.length : Int) := by omega
        have hk0 : (0 : Int) ≤ (k : Int) := by omega
        have hgl : g < wr.heap.size := Nat.lt_of_lt_of_le hg hbel.size
        clear hc hs hsn
        go_wp2_with (at_builtin; refine wpList_append_lies _ rfl _ _ 48 rfl w.heap.size 3 i0 _ 1 8 Tryz.underlying48 hi0 hz0 hz1 hz2 rfl (by decide) _ k ((ns.take k).map fun x => Value.int .i64 (x : Nat)) (by rfl) (hrow.alloc _) ⟨wr.heap.size, 0, none⟩ 1 1 [.int .i64 (nk : Nat)] (by rfl) rfl (World.news_of_block (alloc_at _ _ _ (by simp))) (by simp [Value.oneCell']) (by decide) (by unfold maxLen; omega) (by omega) (by simp; omega) (wr.heap.size + 1) (by simp) ?_; intro g7 cap7 w7 hown7 hgrow7 hat7 hlt7)
        go_roundw
        case rel => exact ⟨k + 1, hlt, by go_num, by rw [HT.out]; exact hown7, below_grown (hbel.alloc hbel.size _) hgrow7 (fun z hz => (hrow.lt z hz).1)⟩
        case measure => simp [intOf]; omega
    · have e : k = ps.length := by omega
      subst e
      rw [List.take_of_length_le (by omega)] at hrow
      go_wp2
      go_ret
      rw [hn]
      exact ⟨_, rfl, hrow, hbel⟩
end Go.Proofs.YtddbjcfdmdbmkaaGreatDoor

namespace Go.Proofs.YtddbjcfdmdbmkaaGreatDoor
open Go.RowKit

structure MRun where
  sv : Value
  ta : Option Addr
  tc : Nat
  ps : List Nat
  pl : Nat × List Nat
instance : Inhabited MRun := ⟨⟨.slice none 0 0, none, 0, [], (0, [])⟩⟩
def MRun.cells (r : MRun) : List Value := [r.sv, .slice r.ta r.ps.length r.tc]
def MRun.val (r : MRun) : Value := .agg #[r.sv, .slice r.ta r.ps.length r.tc]
set_option maxRecDepth 100000 in
set_option maxHeartbeats 1600000 in
theorem less_core {w : World} {g n cap i j ti ki ci tj kj cj pi pj : Nat} {ei ej : Int} (hg : g < w.heap.size) (hi : i < n) (hj : j < n)
    (a1 : w.cell? ⟨g, i * 2 + 1, none⟩ = some (.slice (some ⟨ti, 0, none⟩) ki ci)) (a2 : w.cell? ⟨ti, 0, none⟩ = some (.pointer (some ⟨pi, 0, none⟩))) (a3 : w.cell? ⟨pi, 0, none⟩ = some (.int .i64 ei)) (al : ti < w.heap.size) (am : pi < w.heap.size) (ak : 0 < ki)
    (b1 : w.cell? ⟨g, j * 2 + 1, none⟩ = some (.slice (some ⟨tj, 0, none⟩) kj cj)) (b2 : w.cell? ⟨tj, 0, none⟩ = some (.pointer (some ⟨pj, 0, none⟩))) (b3 : w.cell? ⟨pj, 0, none⟩ = some (.int .i64 ej)) (bl : tj < w.heap.size) (bm : pj < w.heap.size) (bk : 0 < kj) :
    Calls Tryz.prog 278 #[.slice (some ⟨g, 0, none⟩) n cap, .int .i64 i, .int .i64 j] w fun e w' => e = .returned (.bool (decide (ei < ej))) ∧ Below w.heap.size w w' := by
  have i0 : (0 : Int) ≤ (i : Int) := by omega
  have i1 : (i : Int) < (n : Int) := by omega
  have j0 : (0 : Int) ≤ (j : Int) := by omega
  have j1 : (j : Int) < (n : Int) := by omega
  have k0 : (0 : Int) < (ki : Int) := by omega
  have k1 : (0 : Int) < (kj : Int) := by omega
  go_enter Tryz.func278, Tryz.ntmps278
  go_upto_region 1 with fail
  go_quiet (fail)
  go_wp2
  go_ret
  exact ⟨rfl, ⟨rfl, rfl, rfl, Nat.le_refl _, fun _ _ => rfl⟩⟩
end Go.Proofs.YtddbjcfdmdbmkaaGreatDoor

namespace Go.Proofs.YtddbjcfdmdbmkaaGreatDoor
open Go.RowKit

theorem flat_set2 {α : Type} {f : α → List Value} {a b : α → Value} (hf : ∀ x, f x = [a x, b x]) : ∀ (l : List α) (i : Nat) (x : α), flat f (l.set i x) = ((flat f l).set (i * 2) (a x)).set (i * 2 + 1) (b x) := by
  intro l
  induction l with
  | nil => intro i x; simp [flat]
  | cons y l ih =>
    intro i x
    have hc : ∀ (z : α) (m : List α), flat f (z :: m) = a z :: b z :: flat f m := fun z m => by simp [flat, hf]
    cases i with
    | zero => rw [List.set_cons_zero, hc, hc]; rfl
    | succ i =>
      rw [List.set_cons_succ, hc, hc, ih]
      rw [show (i + 1) * 2 = i * 2 + 1 + 1 by omega]
      rfl
theorem row_set {w : World} {base : Nat} {e : TypeId} {s g n cap k : Nat} {xs : List Value} {u : Value} (h : w.ownsRow base e s (.slice (some ⟨g, 0, none⟩) n cap) n xs) (hk : k < xs.length) : (w.setCell ⟨g, k, none⟩ u).ownsRow base e s (.slice (some ⟨g, 0, none⟩) n cap) n (xs.set k u) := by
  obtain ⟨h1, h2⟩ := h
  refine ⟨by rw [List.length_set]; exact h1, ?_⟩
  rcases h2 with ⟨h, _⟩ | ⟨g', cap', cur, he, hb, hg, hn, hcm, hcs, htake⟩
  · cases h
  · cases he
    have hB : Blk w g cur e := hg
    refine .inr ⟨g, cap, cur.setIfInBounds k u, rfl, hb, hB.set k u, hn, hcm, by simpa using hcs, ?_⟩
    rw [← htake, Array.toList_setIfInBounds, List.take_set]
theorem run_cells {w : World} {base g cap : Nat} {rs : List MRun} (h : w.ownsRow base 163 2 (.slice (some ⟨g, 0, none⟩) rs.length cap) rs.length (flat MRun.cells rs)) (i : Nat) (hi : i < rs.length) : w.cell? ⟨g, i * 2, none⟩ = some rs[i].sv ∧ w.cell? ⟨g, i * 2 + 1, none⟩ = some (.slice rs[i].ta rs[i].ps.length rs[i].tc) := by
  have key : ∀ q, q < 2 → ∀ u, (MRun.cells rs[i])[q]? = some u → w.cell? ⟨g, i * 2 + q, none⟩ = some u := by
    intro q hq u hu
    have := h.cells (g := g) rfl (i * 2 + q) u (by rw [flat_get MRun.cells 2 (fun _ => rfl) _ _ _ hi hq]; exact hu)
    rw [addr_add, Nat.zero_add] at this; exact this
  exact ⟨key 0 (by decide) _ rfl, key 1 (by decide) _ rfl⟩
theorem flat_swap (rs : List MRun) (i j : Nat) (a b : MRun) : flat MRun.cells ((rs.set i b).set j a) = ((((flat MRun.cells rs).set (i * 2) b.sv).set (i * 2 + 1) (.slice b.ta b.ps.length b.tc)).set (j * 2) a.sv).set (j * 2 + 1) (.slice a.ta a.ps.length a.tc) := by
  rw [flat_set2 (f := MRun.cells) (a := MRun.sv) (b := fun r => .slice r.ta r.ps.length r.tc) (fun _ => rfl), flat_set2 (f := MRun.cells) (a := MRun.sv) (b := fun r => .slice r.ta r.ps.length r.tc) (fun _ => rfl)]
set_option maxRecDepth 100000 in
set_option maxHeartbeats 3200000 in
theorem swap_p {w : World} {base g cap : Nat} {rs : List MRun} (h : w.ownsRow base 163 2 (.slice (some ⟨g, 0, none⟩) rs.length cap) rs.length (flat MRun.cells rs)) (hsv : ∀ r ∈ rs, ∃ a b c, r.sv = .slice a b c) (i j : Nat) (hi : i < rs.length) (hj : j < rs.length) :
    Calls Tryz.prog 279 #[.slice (some ⟨g, 0, none⟩) rs.length cap, .int .i64 i, .int .i64 j] w fun e w' => e = .returned (.tuple #[]) ∧ w'.ownsRow base 163 2 (.slice (some ⟨g, 0, none⟩) rs.length cap) rs.length (flat MRun.cells (swapL rs i j)) ∧ w.grownBy w' (some g) := by
  obtain ⟨a0, a1⟩ := run_cells h i hi
  obtain ⟨b0, b1⟩ := run_cells h j hj
  obtain ⟨ia, ib, ic, hsi⟩ := hsv rs[i] (List.getElem_mem hi)
  obtain ⟨ja, jb, jc, hsj⟩ := hsv rs[j] (List.getElem_mem hj)
  have hfl : (flat MRun.cells rs).length = rs.length * 2 := h.1
  have hg := (h.lt g rfl).2
  obtain ⟨cur, hB, hcs⟩ : ∃ cur, Blk w g cur 163 ∧ rs.length * 2 ≤ cur.size := by
    rcases h.2 with ⟨e, _⟩ | ⟨g', cap', cur, he, _, hgg, hn, _, hcs, _⟩
    · cases e
    · cases he; exact ⟨cur, hgg, by rw [hcs]; exact Nat.mul_le_mul_right _ hn⟩
  have hfz : ∀ k, w.frozen? ⟨g, k, none⟩ = false := fun k => hB.frozen k
  have hB2 := (hB.set (i * 2) rs[j].sv).set (i * 2 + 1) (.slice rs[j].ta rs[j].ps.length rs[j].tc)
  have hB3 := hB2.set (j * 2) rs[i].sv
  have y2 := hB2.cell (j * 2)
  have y3 := hB2.cell (j * 2 + 1)
  have z3 := hB3.cell (j * 2 + 1)
  have yf2 := hB2.frozen (j * 2)
  have yf3 := hB2.frozen (j * 2 + 1)
  have zf3 := hB3.frozen (j * 2 + 1)
  have hB2l := hB2.lt
  have hB3l := hB3.lt
  rw [Array.getElem?_eq_getElem (by simp; omega)] at y2 y3 z3
  have hrow : ((((w.setCell ⟨g, i * 2, none⟩ rs[j].sv).setCell ⟨g, i * 2 + 1, none⟩ (.slice rs[j].ta rs[j].ps.length rs[j].tc)).setCell ⟨g, j * 2, none⟩ rs[i].sv).setCell ⟨g, j * 2 + 1, none⟩ (.slice rs[i].ta rs[i].ps.length rs[i].tc)).ownsRow base 163 2 (.slice (some ⟨g, 0, none⟩) rs.length cap) rs.length (flat MRun.cells (swapL rs i j)) := by
    have e : swapL rs i j = (rs.set i rs[j]).set j rs[i] := by unfold swapL; simp [List.getD, hi, hj]
    rw [e, flat_swap]
    exact row_set (row_set (row_set (row_set h (by omega)) (by simp; omega)) (by simp; omega)) (by simp; omega)
  have hgr : w.grownBy ((((w.setCell ⟨g, i * 2, none⟩ rs[j].sv).setCell ⟨g, i * 2 + 1, none⟩ (.slice rs[j].ta rs[j].ps.length rs[j].tc)).setCell ⟨g, j * 2, none⟩ rs[i].sv).setCell ⟨g, j * 2 + 1, none⟩ (.slice rs[i].ta rs[i].ps.length rs[i].tc)) (some g) :=
    ⟨rfl, rfl, rfl, by simp [World.setCell], fun k hk hne => by
      have hk' : k ≠ g := fun e => hne (by rw [e])
      repeat rw [Below.heap_setCell _ _ _ _ (fun e => hk' (by simp at e; omega))]⟩
  rw [hsi] at a0 hrow hgr z3 zf3 hB3l
  rw [hsj] at b0 hrow hgr y2 y3 z3 yf2 yf3 zf3 hB2l hB3l
  clear hB2 hB3
  generalize rs[i].ta = tia at *
  generalize rs[i].ps.length = tib at *
  generalize rs[i].tc = tic at *
  generalize rs[j].ta = tja at *
  generalize rs[j].ps.length = tjb at *
  generalize rs[j].tc = tjc at *
  have f0 := hfz (i * 2); have f1 := hfz (i * 2 + 1); have f2 := hfz (j * 2); have f3 := hfz (j * 2 + 1)
  have i0 : (0 : Int) ≤ (i : Int) := by omega
  have i1 : (i : Int) < (rs.length : Int) := by omega
  have j0 : (0 : Int) ≤ (j : Int) := by omega
  have j1 : (j : Int) < (rs.length : Int) := by omega
  generalize flat MRun.cells (swapL rs i j) = FF at *
  clear h hsv hfl
  go_enter Tryz.func279, Tryz.ntmps279
  go_region
  all_goals
    go_end0
    exact ⟨rfl, hrow, ⟨hgr.os, hgr.tape, hgr.output, hgr.size, hgr.block⟩⟩
end Go.Proofs.YtddbjcfdmdbmkaaGreatDoor

namespace Go.Proofs.YtddbjcfdmdbmkaaGreatDoor
open Go.RowKit

theorem chk_runs (a : Addr) (nm : String) (w : World) : (Builtin.ssaWrapNilChk_ #[167] 167 #[.pointer (some a), strVal "", strVal nm]).run Tryz.prog w = .ok (.pointer (some a)) w := by kernel_rfl
theorem meth_val {nm : String} {f : Nat} (hrow : (Tryz.prog.info? 167).map (fun i => (i.methods.find? (·.name == nm)).map fun m => (m.path.isEmpty, m.func)) = some (some (true, some (f, false)))) {a : Addr} {w : World} {p : Option Addr} {n c : Nat} (h : w.cell? a = some (.slice p n c)) :
    (method 468 167 (.pointer (some a)) nm).run Tryz.prog w = .ok (f, .slice p n c) w := by
  obtain ⟨i, hi, h1⟩ := Option.map_eq_some_iff.1 hrow
  obtain ⟨m, hm, h2⟩ := Option.map_eq_some_iff.1 h1
  simp only [Prod.mk.injEq] at h2
  obtain ⟨hp, hf⟩ := h2
  have hp' : m.path.toList = [] := by simpa [Array.isEmpty] using hp
  have hp2 : m.path = #[] := Array.toList_inj.1 hp'
  unfold method
  simp [typeInfo, hi, hm, hp2, hf, follow, receiverAt, go_sem, chk_runs, Place.get, h]
theorem meth_len {a : Addr} {w : World} {p : Option Addr} {n c : Nat} (h : w.cell? a = some (.slice p n c)) : (method 468 167 (.pointer (some a)) "Len").run Tryz.prog w = .ok (277, .slice p n c) w := meth_val (by kernel_rfl) h
theorem meth_less {a : Addr} {w : World} {p : Option Addr} {n c : Nat} (h : w.cell? a = some (.slice p n c)) : (method 468 167 (.pointer (some a)) "Less").run Tryz.prog w = .ok (278, .slice p n c) w := meth_val (by kernel_rfl) h
theorem meth_swap {a : Addr} {w : World} {p : Option Addr} {n c : Nat} (h : w.cell? a = some (.slice p n c)) : (method 468 167 (.pointer (some a)) "Swap").run Tryz.prog w = .ok (279, .slice p n c) w := meth_val (by kernel_rfl) h
theorem meth_push (a : Addr) (w : World) : (method 468 167 (.pointer (some a)) "Push").run Tryz.prog w = .ok (283, .pointer (some a)) w := by kernel_rfl
theorem meth_pop (a : Addr) (w : World) : (method 468 167 (.pointer (some a)) "Pop").run Tryz.prog w = .ok (282, .pointer (some a)) w := by kernel_rfl
set_option maxHeartbeats 400000 in
theorem runsLen_p {p : Option Addr} {n c : Nat} (w : World) : Calls Tryz.prog 277 #[.slice p n c] w fun e w' => e = .returned (.int .i64 n) ∧ w' = w := by
  go_enter Tryz.func277, Tryz.ntmps277
  go_wp2
  go_ret
  exact ⟨rfl, rfl⟩
structure HeapM (w : World) (X g cap : Nat) (rs : List MRun) (tm : MRun → Int) : Prop where
  lt : X < w.heap.size
  ne : g ≠ X
  cell : w.cell? ⟨X, 5, none⟩ = some (.slice (some ⟨g, 0, none⟩) rs.length cap)
  row : w.ownsRow 0 163 2 (.slice (some ⟨g, 0, none⟩) rs.length cap) rs.length (flat MRun.cells rs)
  first : ∀ r ∈ rs, ∃ t p, r.ta = some ⟨t, 0, none⟩ ∧ 0 < r.ps.length ∧ w.cell? ⟨t, 0, none⟩ = some (.pointer (some ⟨p, 0, none⟩)) ∧ w.cell? ⟨p, 0, none⟩ = some (.int .i64 (tm r)) ∧ t < w.heap.size ∧ p < w.heap.size ∧ t ≠ g ∧ p ≠ g
  sv : ∀ r ∈ rs, ∃ a b c, r.sv = .slice a b c
theorem HeapM.less {w : World} {X g cap : Nat} {rs : List MRun} {tm : MRun → Int} (h : HeapM w X g cap rs tm) (i j : Nat) (hi : i < rs.length) (hj : j < rs.length) :
    Calls Tryz.prog 278 #[.slice (some ⟨g, 0, none⟩) rs.length cap, .int .i64 i, .int .i64 j] w fun e w' => e = .returned (.bool (decide (keyAt tm rs i < keyAt tm rs j))) ∧ Below w.heap.size w w' := by
  have hg := (h.row.lt g rfl).2
  obtain ⟨_, a1⟩ := run_cells h.row i hi
  obtain ⟨_, b1⟩ := run_cells h.row j hj
  obtain ⟨ti, pi, e1, e2, e3, e4, e5, e6, _⟩ := h.first rs[i] (List.getElem_mem hi)
  obtain ⟨tj, pj, f1, f2, f3, f4, f5, f6, _⟩ := h.first rs[j] (List.getElem_mem hj)
  rw [e1] at a1
  rw [f1] at b1
  have k1 : keyAt tm rs i = tm rs[i] := by unfold keyAt; simp [List.getD, hi]
  have k2 : keyAt tm rs j = tm rs[j] := by unfold keyAt; simp [List.getD, hj]
  rw [k1, k2]
  exact less_core hg hi hj a1 e3 e4 e5 e6 e2 b1 f3 f4 f5 f6 f2
theorem HeapM.keep {w w' : World} {X g cap : Nat} {rs : List MRun} {tm : MRun → Int} (h : HeapM w X g cap rs tm) (hb : Below w.heap.size w w') : HeapM w' X g cap rs tm := by
  have hg := (h.row.lt g rfl).2
  refine ⟨Nat.lt_of_lt_of_le h.lt hb.size, h.ne, (hb.cell (p := ⟨X, 5, none⟩) h.lt).trans h.cell, row_of_blk h.row (fun z hz => hb.block z (h.row.lt z hz).2), fun r hr => ?_, h.sv⟩
  obtain ⟨t, p, e1, e2, e3, e4, e5, e6, e7, e8⟩ := h.first r hr
  exact ⟨t, p, e1, e2, (hb.cell (p := ⟨t, 0, none⟩) e5).trans e3, (hb.cell (p := ⟨p, 0, none⟩) e6).trans e4, Nat.lt_of_lt_of_le e5 hb.size, Nat.lt_of_lt_of_le e6 hb.size, e7, e8⟩
theorem HeapM.turn {w w' : World} {X g cap : Nat} {rs rs' : List MRun} {tm : MRun → Int} (h : HeapM w X g cap rs tm) (hp : rs'.Perm rs) (hrow : w'.ownsRow 0 163 2 (.slice (some ⟨g, 0, none⟩) rs.length cap) rs.length (flat MRun.cells rs')) (hg : w.grownBy w' (some g)) : HeapM w' X g cap rs' tm := by
  have hl := hp.length_eq
  have hc : ∀ b k, b < w.heap.size → b ≠ g → w'.cell? ⟨b, k, none⟩ = w.cell? ⟨b, k, none⟩ := fun b k hb hne => cell_eq (hg.block b hb (fun e => hne (by simpa using e))) k
  refine ⟨Nat.lt_of_lt_of_le h.lt hg.size, h.ne, by rw [hl, hc X 5 h.lt (fun e => h.ne e.symm)]; exact h.cell, by rw [hl]; exact hrow, fun r hr => ?_, fun r hr => h.sv r (hp.mem_iff.1 hr)⟩
  obtain ⟨t, p, e1, e2, e3, e4, e5, e6, e7, e8⟩ := h.first r (hp.mem_iff.1 hr)
  exact ⟨t, p, e1, e2, (hc t 0 e5 e7).trans e3, (hc p 0 e6 e8).trans e4, Nat.lt_of_lt_of_le e5 hg.size, Nat.lt_of_lt_of_le e6 hg.size, e7, e8⟩
theorem HeapM.swap {w : World} {X g cap : Nat} {rs : List MRun} {tm : MRun → Int} (h : HeapM w X g cap rs tm) (i j : Nat) (hi : i < rs.length) (hj : j < rs.length) :
    Calls Tryz.prog 279 #[.slice (some ⟨g, 0, none⟩) rs.length cap, .int .i64 i, .int .i64 j] w fun e w' => e = .returned (.tuple #[]) ∧ HeapM w' X g cap (swapL rs i j) tm ∧ w.grownBy w' (some g) := by
  refine (swap_p h.row h.sv i j hi hj).mono ?_
  rintro e w' ⟨h1, h2, h3⟩
  exact ⟨h1, h.turn (swapL_perm rs i j hi hj) h2 h3, h3⟩
end Go.Proofs.YtddbjcfdmdbmkaaGreatDoor

namespace Go.Proofs.YtddbjcfdmdbmkaaGreatDoor
open Go.RowKit

theorem grown_trans {a b c : World} {g : Nat} (h : a.grownBy b (some g)) (k : b.grownBy c (some g)) : a.grownBy c (some g) :=
  ⟨k.os.trans h.os, k.tape.trans h.tape, k.output.trans h.output, Nat.le_trans h.size k.size, fun z hz hne => (k.block z (Nat.lt_of_lt_of_le hz h.size) hne).trans (h.block z hz hne)⟩
theorem grown_below {a b : World} {g : Nat} (h : Below a.heap.size a b) : a.grownBy b (some g) := ⟨h.os, h.tape, h.output, h.size, fun z hz _ => h.block z hz⟩
theorem grown_refl (a : World) (g : Nat) : a.grownBy a (some g) := ⟨rfl, rfl, rfl, Nat.le_refl _, fun _ _ _ => rfl⟩
set_option maxRecDepth 100000 in
set_option maxHeartbeats 3200000 in
theorem down_p {w : World} {X g cap : Nat} {rs : List MRun} {tm : MRun → Int} (h : HeapM w X g cap rs tm) (i0 n : Nat) (hn : n ≤ rs.length) (hl : rs.length ≤ 1000000) (hi : i0 ≤ 1000000) :
    Calls Tryz.prog 116 #[.iface 167 (.pointer (some ⟨X, 5, none⟩)), .int .i64 i0, .int .i64 n] w fun e w' => (∃ b, e = .returned (.bool b)) ∧ HeapM w' X g cap (downP tm n rs i0 n) tm ∧ w.grownBy w' (some g) := by
  go_enter Tryz.func116, Tryz.ntmps116
  go_wp2
  go_loopw [7] (fun i wr => ∃ (k f : Nat) (ls : List MRun), i = .int .i64 k ∧ k ≤ 1000000 ∧ n ≤ k + f ∧ ls.length = rs.length ∧ downP tm f ls k n = downP tm n rs i0 n ∧ HeapM wr X g cap ls tm ∧ w.grownBy wr (some g)) (fun i _ => n - (intOf i).toNat)
  case atStart => exact ⟨i0, n, rs, rfl, hi, by omega, rfl, rfl, h, grown_refl _ _⟩
  case round =>
    obtain ⟨k, f, ls, rfl, hk, hf, hll, hd, hM, hgr⟩ := hrel
    have HD : Hid (downP tm f ls k n = downP tm n rs i0 n) := hd
    have HLL : Hid (ls.length = rs.length) := hll
    have hnl : n ≤ ls.length := by omega
    have hnm : n ≤ 1000000 := by omega
    clear hd h hll hn
    have hcell := hM.cell
    have hml := meth_less hcell
    have hms := meth_swap hcell
    by_cases h1 : n ≤ 2 * k + 1
    · have HE : Hid (ls = downP tm n rs i0 n) := by
        show _ = _
        rw [← HD.out]
        cases f with
        | zero => rfl
        | succ f => unfold downP; rw [if_pos h1]
      have h1' : (n : Int) ≤ 2 * (k : Int) + 1 := by omega
      go_wp2
      go_ret
      rw [← HE.out]
      exact ⟨⟨_, rfl⟩, hM, hgr⟩
    · have h1' : 2 * (k : Int) + 1 < (n : Int) := by omega
      have h0' : (0 : Int) ≤ 2 * (k : Int) + 1 := by omega
      have hj1 : 2 * k + 1 < ls.length := by omega
      have hkl : k < ls.length := by omega
      obtain ⟨f, rfl⟩ : ∃ f', f = f' + 1 := ⟨f - 1, by omega⟩
      have HU : Hid (downP tm (f + 1) ls k n = if keyAt tm ls (childP tm ls k n) < keyAt tm ls k then downP tm f (swapL ls k (childP tm ls k n)) (childP tm ls k n) n else ls) := by
        show _ = _
        conv => lhs; unfold downP
        rw [if_neg h1]
      obtain ⟨hc1, hc2, _⟩ := childP_spec tm ls k n (by omega)
      have c1 : ((2 * k + 1 : Nat) : Int) = 2 * (k : Int) + 1 := by omega
      have c2 : ((2 * k + 2 : Nat) : Int) = 2 * (k : Int) + 1 + 1 := by omega
      by_cases h2 : 2 * k + 2 < n
      · have h2' : 2 * (k : Int) + 1 + 1 < (n : Int) := by omega
        have hL1 := hM.less (2 * k + 2) (2 * k + 1) (by omega) hj1
        rw [c1, c2] at hL1
        by_cases hb : keyAt tm ls (2 * k + 2) < keyAt tm ls (2 * k + 1)
        · rw [decide_eq_true hb] at hL1
          have hch : childP tm ls k n = 2 * k + 2 := by unfold childP; rw [if_pos ⟨h2, hb⟩]
          have cj : ((2 * k + 2 : Nat) : Int) = 2 * (k : Int) + 1 + 1 := by omega
          by_cases hlt : keyAt tm ls (2 * k + 2) < keyAt tm ls k
          · have hlt2 : decide (keyAt tm ls (2 * k + 2) < keyAt tm ls k) = true := decide_eq_true hlt
            have HR : Hid (downP tm f (swapL ls k (2 * k + 2)) (2 * k + 2) n = downP tm n rs i0 n) := by show _ = _; rw [← HD.out, HU.out, hch, if_pos hlt]
            clear hlt HD HU
            go_wp2_with (first
              | (go_at_call 279; refine hS.mono ?_; rintro e w3 ⟨rfl, hM3, hg3⟩)
              | (go_at_call 278; refine hL2.mono ?_; rintro e w2 ⟨rfl, hb2⟩; have hM2 := hM1.keep hb2; have hc2' := hM2.cell; have hms2 := meth_swap hc2'; have hS := hM2.swap k (2 * k + 2) hkl (by omega); rw [cj] at hS)
              | (go_at_call 278; refine hL1.mono ?_; rintro e w1 ⟨rfl, hb1⟩; have hM1 := hM.keep hb1; have hc1' := hM1.cell; have hml1 := meth_less hc1'; have hL2 := hM1.less (2 * k + 2) k (by omega) hkl; rw [hlt2, cj] at hL2))
            go_roundw
            case rel => exact ⟨2 * k + 2, f, swapL ls k (2 * k + 2), by go_num, by omega, by omega, by rw [swapL_len]; exact HLL.out, HR.out, hM3, grown_trans (grown_trans (grown_trans hgr (grown_below hb1)) (grown_below hb2)) hg3⟩
            case measure => simp [intOf]; omega
          · have hlt2 : decide (keyAt tm ls (2 * k + 2) < keyAt tm ls k) = false := decide_eq_false hlt
            have HR : Hid (ls = downP tm n rs i0 n) := by show _ = _; rw [← HD.out, HU.out, hch, if_neg hlt]
            clear hlt HD HU
            go_wp2_with (first
              | (go_at_call 279; refine hS.mono ?_; rintro e w3 ⟨rfl, hM3, hg3⟩)
              | (go_at_call 278; refine hL2.mono ?_; rintro e w2 ⟨rfl, hb2⟩; have hM2 := hM1.keep hb2; have hc2' := hM2.cell; have hms2 := meth_swap hc2'; have hS := hM2.swap k (2 * k + 2) hkl (by omega); rw [cj] at hS)
              | (go_at_call 278; refine hL1.mono ?_; rintro e w1 ⟨rfl, hb1⟩; have hM1 := hM.keep hb1; have hc1' := hM1.cell; have hml1 := meth_less hc1'; have hL2 := hM1.less (2 * k + 2) k (by omega) hkl; rw [hlt2, cj] at hL2))
            go_ret
            rw [← HR.out]
            exact ⟨⟨_, rfl⟩, hM2, grown_trans (grown_trans hgr (grown_below hb1)) (grown_below hb2)⟩
        · rw [decide_eq_false hb] at hL1
          have hch : childP tm ls k n = 2 * k + 1 := by unfold childP; rw [if_neg (fun e => hb e.2)]
          have cj : ((2 * k + 1 : Nat) : Int) = 2 * (k : Int) + 1 := by omega
          by_cases hlt : keyAt tm ls (2 * k + 1) < keyAt tm ls k
          · have hlt2 : decide (keyAt tm ls (2 * k + 1) < keyAt tm ls k) = true := decide_eq_true hlt
            have HR : Hid (downP tm f (swapL ls k (2 * k + 1)) (2 * k + 1) n = downP tm n rs i0 n) := by show _ = _; rw [← HD.out, HU.out, hch, if_pos hlt]
            clear hlt HD HU
            go_wp2_with (first
              | (go_at_call 279; refine hS.mono ?_; rintro e w3 ⟨rfl, hM3, hg3⟩)
              | (go_at_call 278; refine hL2.mono ?_; rintro e w2 ⟨rfl, hb2⟩; have hM2 := hM1.keep hb2; have hc2' := hM2.cell; have hms2 := meth_swap hc2'; have hS := hM2.swap k (2 * k + 1) hkl (by omega); rw [cj] at hS)
              | (go_at_call 278; refine hL1.mono ?_; rintro e w1 ⟨rfl, hb1⟩; have hM1 := hM.keep hb1; have hc1' := hM1.cell; have hml1 := meth_less hc1'; have hL2 := hM1.less (2 * k + 1) k (by omega) hkl; rw [hlt2, cj] at hL2))
            go_roundw
            case rel => exact ⟨2 * k + 1, f, swapL ls k (2 * k + 1), by go_num, by omega, by omega, by rw [swapL_len]; exact HLL.out, HR.out, hM3, grown_trans (grown_trans (grown_trans hgr (grown_below hb1)) (grown_below hb2)) hg3⟩
            case measure => simp [intOf]; omega
          · have hlt2 : decide (keyAt tm ls (2 * k + 1) < keyAt tm ls k) = false := decide_eq_false hlt
            have HR : Hid (ls = downP tm n rs i0 n) := by show _ = _; rw [← HD.out, HU.out, hch, if_neg hlt]
            clear hlt HD HU
            go_wp2_with (first
              | (go_at_call 279; refine hS.mono ?_; rintro e w3 ⟨rfl, hM3, hg3⟩)
              | (go_at_call 278; refine hL2.mono ?_; rintro e w2 ⟨rfl, hb2⟩; have hM2 := hM1.keep hb2; have hc2' := hM2.cell; have hms2 := meth_swap hc2'; have hS := hM2.swap k (2 * k + 1) hkl (by omega); rw [cj] at hS)
              | (go_at_call 278; refine hL1.mono ?_; rintro e w1 ⟨rfl, hb1⟩; have hM1 := hM.keep hb1; have hc1' := hM1.cell; have hml1 := meth_less hc1'; have hL2 := hM1.less (2 * k + 1) k (by omega) hkl; rw [hlt2, cj] at hL2))
            go_ret
            rw [← HR.out]
            exact ⟨⟨_, rfl⟩, hM2, grown_trans (grown_trans hgr (grown_below hb1)) (grown_below hb2)⟩
      · have h2' : (n : Int) ≤ 2 * (k : Int) + 1 + 1 := by omega
        have hch : childP tm ls k n = 2 * k + 1 := by unfold childP; rw [if_neg (fun e => h2 e.1)]
        have cj : ((2 * k + 1 : Nat) : Int) = 2 * (k : Int) + 1 := by omega
        by_cases hlt : keyAt tm ls (2 * k + 1) < keyAt tm ls k
        · have hlt2 : decide (keyAt tm ls (2 * k + 1) < keyAt tm ls k) = true := decide_eq_true hlt
          have HR : Hid (downP tm f (swapL ls k (2 * k + 1)) (2 * k + 1) n = downP tm n rs i0 n) := by show _ = _; rw [← HD.out, HU.out, hch, if_pos hlt]
          have hL2 := hM.less (2 * k + 1) k (by omega) hkl
          rw [hlt2, cj] at hL2
          clear hlt HD HU
          go_wp2_with (first
            | (go_at_call 279; refine hS.mono ?_; rintro e w3 ⟨rfl, hM3, hg3⟩)
            | (go_at_call 278; refine hL2.mono ?_; rintro e w2 ⟨rfl, hb2⟩; have hM2 := hM.keep hb2; have hc2' := hM2.cell; have hms2 := meth_swap hc2'; have hS := hM2.swap k (2 * k + 1) hkl (by omega); rw [cj] at hS))
          go_roundw
          case rel => exact ⟨2 * k + 1, f, swapL ls k (2 * k + 1), by go_num, by omega, by omega, by rw [swapL_len]; exact HLL.out, HR.out, hM3, grown_trans (grown_trans hgr (grown_below hb2)) hg3⟩
          case measure => simp [intOf]; omega
        · have hlt2 : decide (keyAt tm ls (2 * k + 1) < keyAt tm ls k) = false := decide_eq_false hlt
          have HR : Hid (ls = downP tm n rs i0 n) := by show _ = _; rw [← HD.out, HU.out, hch, if_neg hlt]
          have hL2 := hM.less (2 * k + 1) k (by omega) hkl
          rw [hlt2, cj] at hL2
          clear hlt HD HU
          go_wp2_with (first
            | (go_at_call 279; refine hS.mono ?_; rintro e w3 ⟨rfl, hM3, hg3⟩)
            | (go_at_call 278; refine hL2.mono ?_; rintro e w2 ⟨rfl, hb2⟩; have hM2 := hM.keep hb2; have hc2' := hM2.cell; have hms2 := meth_swap hc2'; have hS := hM2.swap k (2 * k + 1) hkl (by omega); rw [cj] at hS))
          go_ret
          rw [← HR.out]
          exact ⟨⟨_, rfl⟩, hM2, grown_trans hgr (grown_below hb2)⟩
end Go.Proofs.YtddbjcfdmdbmkaaGreatDoor

namespace Go.Proofs.YtddbjcfdmdbmkaaGreatDoor
open Go.RowKit

theorem half_nat (k : Nat) (h : 0 < k) : ((k : Int) - 1) / 2 = (((k - 1) / 2 : Nat) : Int) := by omega
set_option maxRecDepth 100000 in
set_option maxHeartbeats 3200000 in
theorem up_p {w : World} {X g cap : Nat} {rs : List MRun} {tm : MRun → Int} (h : HeapM w X g cap rs tm) (j0 : Nat) (hj : j0 < rs.length) (hl : rs.length ≤ 1000000) :
    Calls Tryz.prog 156 #[.iface 167 (.pointer (some ⟨X, 5, none⟩)), .int .i64 j0] w fun e w' => e = .returned (.tuple #[]) ∧ HeapM w' X g cap (upP tm (j0 + 1) rs j0) tm ∧ w.grownBy w' (some g) := by
  go_enter Tryz.func156, Tryz.ntmps156
  go_wp2
  go_loopw [1] (fun j wr => ∃ (k f : Nat) (ls : List MRun), j = .int .i64 k ∧ k < f ∧ k < ls.length ∧ ls.length = rs.length ∧ upP tm f ls k = upP tm (j0 + 1) rs j0 ∧ HeapM wr X g cap ls tm ∧ w.grownBy wr (some g)) (fun j _ => (intOf j).toNat)
  case atStart => exact ⟨j0, j0 + 1, rs, rfl, by omega, hj, rfl, rfl, h, grown_refl _ _⟩
  case round =>
    obtain ⟨k, f, ls, rfl, hkf, hkl, hll, hd, hM, hgr⟩ := hrel
    have HD : Hid (upP tm f ls k = upP tm (j0 + 1) rs j0) := hd
    have HLL : Hid (ls.length = rs.length) := hll
    have hkm : k ≤ 1000000 := by omega
    clear hd h hll
    obtain ⟨f, rfl⟩ : ∃ f', f = f' + 1 := ⟨f - 1, by omega⟩
    have hcell := hM.cell
    have hml := meth_less hcell
    by_cases h0 : k = 0
    · subst h0
      have HE : Hid (ls = upP tm (j0 + 1) rs j0) := by
        show _ = _
        rw [← HD.out]
        unfold upP; rw [if_pos rfl]
      go_wp2
      go_end0
      rw [← HE.out]
      exact ⟨rfl, hM, hgr⟩
    · have hq := half_nat k (by omega)
      have hp : (k - 1) / 2 < k := by omega
      have HU : Hid (upP tm (f + 1) ls k = if keyAt tm ls k < keyAt tm ls ((k - 1) / 2) then upP tm f (swapL ls ((k - 1) / 2) k) ((k - 1) / 2) else ls) := by
        show _ = _
        conv => lhs; unfold upP
        rw [if_neg h0]
      generalize (k - 1) / 2 = p at *
      have hne : ((p : Int) == (k : Int)) = false := by simp; omega
      have hL := hM.less k p hkl (by omega)
      by_cases hlt : keyAt tm ls k < keyAt tm ls p
      · rw [decide_eq_true hlt] at hL
        have HR : Hid (upP tm f (swapL ls p k) p = upP tm (j0 + 1) rs j0) := by show _ = _; rw [← HD.out, HU.out, if_pos hlt]
        clear hlt HD HU
        go_wp2_with (first
          | (go_at_call 279; refine hS.mono ?_; rintro e w3 ⟨rfl, hM3, hg3⟩)
          | (go_at_call 278; refine hL.mono ?_; rintro e w2 ⟨rfl, hb2⟩; have hM2 := hM.keep hb2; have hc2' := hM2.cell; have hms2 := meth_swap hc2'; have hS := hM2.swap p k (by omega) hkl))
        go_roundw
        case rel => exact ⟨p, f, swapL ls p k, by go_num, by omega, by rw [swapL_len]; omega, by rw [swapL_len]; exact HLL.out, HR.out, hM3, grown_trans (grown_trans hgr (grown_below hb2)) hg3⟩
        case measure => simp [intOf]; omega
      · rw [decide_eq_false hlt] at hL
        have HR : Hid (ls = upP tm (j0 + 1) rs j0) := by show _ = _; rw [← HD.out, HU.out, if_neg hlt]
        clear hlt HD HU
        go_wp2_with (first
          | (go_at_call 278; refine hL.mono ?_; rintro e w2 ⟨rfl, hb2⟩; have hM2 := hM.keep hb2))
        go_end0
        rw [← HR.out]
        exact ⟨rfl, hM2, grown_trans hgr (grown_below hb2)⟩
set_option maxRecDepth 100000 in
set_option maxHeartbeats 1600000 in
theorem init_p {w : World} {X g cap : Nat} {rs : List MRun} {tm : MRun → Int} (h : HeapM w X g cap rs tm) (hl : rs.length ≤ 1000000) :
    Calls Tryz.prog 77 #[.iface 167 (.pointer (some ⟨X, 5, none⟩))] w fun e w' => e = .returned (.tuple #[]) ∧ HeapM w' X g cap (initP tm rs.length (rs.length / 2) rs) tm ∧ w.grownBy w' (some g) := by
  have hcell := h.cell
  have hml := meth_len hcell
  have hLen := fun w => runsLen_p (p := some ⟨g, 0, none⟩) (n := rs.length) (c := cap) w
  have hq : (rs.length : Int) / 2 = ((rs.length / 2 : Nat) : Int) := by omega
  have hq2 : rs.length / 2 ≤ rs.length := by omega
  have HI : Hid (initP tm rs.length (rs.length / 2) rs = initP tm rs.length (rs.length / 2) rs) := rfl
  generalize hhalf : rs.length / 2 = hf at *
  go_enter Tryz.func77, Tryz.ntmps77
  go_wp2_with (go_at_call 277; refine (hLen _).mono ?_; rintro e w2 ⟨rfl, he2⟩; rw [he2])
  go_loopw [3] (fun i wr => ∃ (k : Nat) (ls : List MRun), i = .int .i64 ((k : Int) - 1) ∧ k ≤ rs.length ∧ ls.length = rs.length ∧ initP tm rs.length k ls = initP tm rs.length hf rs ∧ HeapM wr X g cap ls tm ∧ w.grownBy wr (some g)) (fun i _ => (intOf i + 1).toNat)
  case atStart => exact ⟨hf, rs, rfl, hq2, rfl, rfl, h, grown_refl _ _⟩
  case round =>
    obtain ⟨k, ls, rfl, hk, hll, hd, hM, hgr⟩ := hrel
    have HD : Hid (initP tm rs.length k ls = initP tm rs.length hf rs) := hd
    have HLL : Hid (ls.length = rs.length) := hll
    have hln : rs.length ≤ ls.length := by omega
    have hl1 : ls.length ≤ 1000000 := by omega
    clear hd h hml hcell HI hll
    cases k with
    | zero =>
      have hz : ((0 : Nat) : Int) - 1 = -1 := by omega
      have HE : Hid (ls = initP tm rs.length hf rs) := by show _ = _; rw [← HD.out]; rfl
      rw [hz]
      go_wp2
      go_end0
      rw [← HE.out]
      exact ⟨rfl, hM, hgr⟩
    | succ k =>
      have hz : ((k + 1 : Nat) : Int) - 1 = (k : Int) := by omega
      have HE : Hid (initP tm rs.length k (downP tm rs.length ls k rs.length) = initP tm rs.length hf rs) := by show _ = _; rw [← HD.out]; rfl
      have hD := down_p hM k rs.length hln hl1 (by omega)
      have hk0 : (0 : Int) ≤ (k : Int) := by omega
      have HDL : Hid ((downP tm rs.length ls k rs.length).length = rs.length) := by show _ = _; rw [downP_len tm rs.length ls k rs.length hln]; exact HLL.out
      rw [hz]
      go_wp2_with (go_at_call 116; refine hD.mono ?_; rintro e w2 ⟨⟨b, rfl⟩, hM2, hg2⟩)
      go_roundw
      case rel => exact ⟨k, downP tm rs.length ls k rs.length, by go_num, by omega, HDL.out, HE.out, hM2, grown_trans hgr hg2⟩
      case measure => simp [intOf]
end Go.Proofs.YtddbjcfdmdbmkaaGreatDoor
