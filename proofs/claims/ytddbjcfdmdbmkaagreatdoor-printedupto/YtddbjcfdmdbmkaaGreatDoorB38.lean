import Derived.Test.YtddbjcfdmdbmkaaGreatDoorB26
import Derived.Test.YtddbjcfdmdbmkaaGreatDoorB28
import Derived.Test.YtddbjcfdmdbmkaaGreatDoorB23
import Derived.BigRegion
import Derived.BigQuiet
set_option linter.unusedVariables false
set_option linter.unusedSimpArgs false
namespace Go.Proofs.YtddbjcfdmdbmkaaGreatDoor
open Go.RowKit

theorem row_ints {w : World} {b : Nat} {v : Value} {l : List Int} (h : w.ownsRow b 3 1 v l.length (l.map (Value.int .i64))) : ∃ a c, v = .slice a l.length c ∧ (0 < l.length → ∃ g, a = some ⟨g, 0, none⟩ ∧ g < w.heap.size ∧ ∀ k, (hk : k < l.length) → w.cell? ⟨g, k, none⟩ = some (.int .i64 l[k])) := by
  rcases h.2 with ⟨rfl, h0⟩ | ⟨g, cap, cur, rfl, _, hg, _⟩
  · exact ⟨none, 0, by rw [h0], fun h => by omega⟩
  · refine ⟨_, _, rfl, fun _ => ⟨g, rfl, (Array.getElem?_eq_some_iff.1 hg).1, fun k hk => ?_⟩⟩
    have := h.cells (g := g) rfl k (.int .i64 l[k]) (by rw [List.getElem?_map, List.getElem?_eq_getElem hk]; rfl)
    rw [addr_add, Nat.zero_add] at this; exact this
structure ClkAt (w : World) (B C : Nat) (W R : Nat) (ts : List Int) (now : Int) (tv : Value) : Prop where
  blk : Blk w C #[.int .i64 (W : Nat), .int .i64 (R : Nat), tv, .int .i64 now] 54
  row : w.ownsRow B 3 1 tv ts.length (ts.map (Value.int .i64))
theorem ClkAt.apart {w : World} {B C W R : Nat} {ts : List Int} {now : Int} {tv : Value} (h : ClkAt w B C W R ts now tv) : tv.ownBlock ≠ some C := blk_apart h.blk h.row (by decide)
theorem clk_mid {w W1 : World} {B C W R n : Nat} {ts : List Int} {t0 : Int} {tv : Value} (t : Int) (hk : Blk W1 C #[.int .i64 (W : Nat), .int .i64 (R : Nat), tv, .int .i64 t0] 54) (hap : tv.ownBlock ≠ some C) (hr : W1.ownsRow B 3 1 tv ts.length (ts.map (Value.int .i64))) (hc : Chg (fun b => b = C ∨ tv.ownBlock = some b) w W1) :
    Blk ((W1.drewN n).setCell ⟨C, 3, none⟩ (.int .i64 t)) C #[.int .i64 (W : Nat), .int .i64 (R : Nat), tv, .int .i64 t] 54 ∧ ((W1.drewN n).setCell ⟨C, 3, none⟩ (.int .i64 t)).ownsRow B 3 1 tv ts.length (ts.map (Value.int .i64)) ∧ Chg (fun b => b = C ∨ tv.ownBlock = some b) w ((W1.drewN n).setCell ⟨C, 3, none⟩ (.int .i64 t)) := by
  have h1 : Blk (W1.drewN n) C _ _ := hk
  have h2 := h1.set 3 (.int .i64 t)
  simp at h2
  have h3 : Chg (fun b => b = C ∨ tv.ownBlock = some b) w (W1.drewN n) := ⟨hc.os, hc.tape, hc.output, hc.size, hc.block⟩
  exact ⟨h2, row_of_blk hr (fun z hz => Below.heap_setCell _ _ _ _ (fun e => by simp at e; subst e; exact hap hz)), h3.setCell (.inl (.inl rfl)) _⟩
theorem clk_end {w W5 w7 : World} {B C W R : Nat} {ts : List Int} {t : Int} {tv : Value} {o : Obj} {g7 cap7 : Nat} (hk : Blk W5 C #[.int .i64 (W : Nat), .int .i64 (R : Nat), tv, .int .i64 t] 54) (hap : tv.ownBlock ≠ some C) (hc : Chg (fun b => b = C ∨ tv.ownBlock = some b) w W5) (hown : w7.ownsRow B 3 1 (.slice (some ⟨g7, 0, none⟩) (ts.length + 1) cap7) (ts.length + 1) (ts.map (Value.int .i64) ++ [.int .i64 t])) (hg : (W5.alloc o).grownBy w7 tv.ownBlock) (hat : tv.ownBlock = some g7 ∨ W5.heap.size ≤ g7) :
    ClkAt (w7.setCell ⟨C, 2, none⟩ (.slice (some ⟨g7, 0, none⟩) (ts.length + 1) cap7)) B C W R (ts ++ [t]) t (.slice (some ⟨g7, 0, none⟩) (ts.length + 1) cap7) ∧ Chg (fun b => b = C ∨ tv.ownBlock = some b) w (w7.setCell ⟨C, 2, none⟩ (.slice (some ⟨g7, 0, none⟩) (ts.length + 1) cap7)) ∧ ∀ b, (Value.slice (some ⟨g7, 0, none⟩) (ts.length + 1) cap7).ownBlock = some b → tv.ownBlock = some b ∨ w.heap.size ≤ b := by
  have hlt := hk.lt
  have hk7 : Blk w7 C _ _ := (hk.alloc o).of_eq (hg.block C (by simp; omega) (fun e => hap e.symm))
  have hk8 := hk7.set 2 (.slice (some ⟨g7, 0, none⟩) (ts.length + 1) cap7)
  simp at hk8
  refine ⟨⟨hk8, ?_⟩, ?_, ?_⟩
  · rw [List.length_append, List.length_singleton, List.map_append]
    refine row_of_blk hown (fun z hz => Below.heap_setCell _ _ _ _ (fun e => ?_))
    simp at e
    have hz' : g7 = z := by simpa [Value.ownBlock] using hz
    subst hz' e
    rcases hat with q | q
    · exact hap q
    · omega
  · exact ((hc.alloc o).trans (Chg.grown hg) (fun b _ e => .inr e)).setCell (.inl (.inl rfl)) _
  · intro b hb
    have hz' : g7 = b := by simpa [Value.ownBlock] using hb
    subst hz'
    rcases hat with q | q
    · exact .inl q
    · have := hc.size
      exact .inr (by omega)
set_option maxRecDepth 100000 in
set_option maxHeartbeats 1600000 in
theorem clkNext_p {w : World} {B C W R : Nat} {ts : List Int} {now by_ : Int} {tv : Value} (h : ClkAt w B C W R ts now tv) (hR : 1 ≤ R) (hR2 : R ≤ 100) (hW : W ≤ 1000) (hl : ts.length ≤ 100000000) (hn : 0 ≤ now ∧ now ≤ 1000000000000) (ht : ∀ t ∈ ts, 0 ≤ t ∧ t ≤ 1000000000000) (hb : 0 ≤ by_ ∧ by_ ≤ 3) (hB : B ≤ w.heap.size) :
    Calls Tryz.prog 51 #[.pointer (some ⟨C, 0, none⟩), .int .i64 by_] w fun x w' => ∃ tv', x = .returned (.int .i64 (clkT W R ts (now + by_))) ∧ ClkAt w' B C W R (ts ++ [clkT W R ts (now + by_)]) (clkT W R ts (now + by_)) tv' ∧ Chg (fun b => b = C ∨ tv.ownBlock = some b) w w' ∧ (∀ b, tv'.ownBlock = some b → tv.ownBlock = some b ∨ w.heap.size ≤ b) := by
  obtain ⟨i0, hi0, hz0, hz1, hz2⟩ := info_parts Tryz.infoIntF
  have hap := h.apart
  obtain ⟨hk, hr⟩ := h
  obtain ⟨ta, tc, rfl, hcs⟩ := row_ints hr
  have c3 := hk.cell 3; have f3 := hk.frozen 3; have hlC := hk.lt
  simp at c3
  have hk1 := hk.set 3 (.int .i64 (now + by_))
  have hr1 : (w.setCell ⟨C, 3, none⟩ (.int .i64 (now + by_))).ownsRow B 3 1 (.slice ta ts.length tc) ts.length (ts.map (Value.int .i64)) := row_of_blk hr (fun z hz => Below.heap_setCell _ _ _ _ (fun e => by simp at e; subst e; exact hap hz))
  have hch1 : Chg (fun b => b = C ∨ (Value.slice ta ts.length tc).ownBlock = some b) w (w.setCell ⟨C, 3, none⟩ (.int .i64 (now + by_))) := (Chg.refl _ w).setCell (.inl (.inl rfl)) _
  have hcs1 : 0 < ts.length → ∃ g, ta = some ⟨g, 0, none⟩ ∧ g < (w.setCell ⟨C, 3, none⟩ (.int .i64 (now + by_))).heap.size ∧ ∀ k, (hk : k < ts.length) → (w.setCell ⟨C, 3, none⟩ (.int .i64 (now + by_))).cell? ⟨g, k, none⟩ = some (.int .i64 ts[k]) := by
    obtain ⟨a', c', e', h'⟩ := row_ints hr1
    cases e'
    exact h'
  simp at hk1
  obtain ⟨t, HT⟩ : ∃ t, Hid (clkT W R ts (now + by_) = t) := ⟨_, rfl⟩
  rw [HT.out]
  generalize hW1 : w.setCell ⟨C, 3, none⟩ (.int .i64 (now + by_)) = W1 at *
  have a0 := hk1.cell 0; have a1 := hk1.cell 1; have a2 := hk1.cell 2; have a3 := hk1.cell 3; have g3 := hk1.frozen 3; have hl1 := hk1.lt
  simp at a0 a1 a2 a3
  go_enter Tryz.func51, Tryz.ntmps51
  go_upto_region 3 with fail
  by_cases h1 : R ≤ ts.length
  · obtain ⟨g, rfl, hg, hgc⟩ := hcs1 (by omega)
    have hx := hgc (ts.length - R) (by omega)
    have hxt := ht _ (List.getElem_mem (show ts.length - R < ts.length by omega))
    have ed : ts.getD (ts.length - R) 0 = ts[ts.length - R] := by simp [List.getD, show ts.length - R < ts.length by omega]
    have hsub : (ts.length : Int) - (R : Int) = ((ts.length - R : Nat) : Int) := by omega
    have h1' : decide ((R : Int) ≤ (ts.length : Int)) = true := by simp; omega
    have HT2 : Hid (t = if R ≤ ts.length ∧ now + by_ - ts[ts.length - R] < W then ts[ts.length - R] + W else now + by_) := by
      show _ = _
      rw [← HT.out]; unfold clkT; rw [ed]
    clear HT ed
    generalize ts[ts.length - R] = x at *
    have hi1 : ((ts.length - R : Nat) : Int) < (ts.length : Int) := by omega
    have hi2 : ((ts.length - R : Nat) : Int) ≤ 100000000 := by omega
    have hi3 : (0 : Int) ≤ ((ts.length - R : Nat) : Int) := by omega
    generalize ts.length - R = d at *
    by_cases h2 : now + by_ - x < W
    · have h2' : decide (now + by_ - x < (W : Int)) = true := by simpa using h2
      have et : t = x + W := by rw [HT2.out, if_pos ⟨h1, h2⟩]
      subst et
      clear HT2
      go_quiet (fail)
      go_upto_region 4 with fail
      go_region
      obtain ⟨hk4, hr4, hc4⟩ := clk_mid (n := nq + 1) (x + (W : Int)) hk1 hap hr1 hch1
      generalize (W1.drewN (nq + 1)).setCell ⟨C, 3, none⟩ (.int .i64 (x + (W : Int))) = W4 at *
      clear hk1 hr1 hch1 hW1 a0 a1 a2 a3 g3 hl1 hx hgc hg hcs1 hk hr hcs
      have hs4 := hc4.size
      have b2 := hk4.cell 2; have b3 := hk4.cell 3; have hl4 := hk4.lt
      simp at b2 b3
      go_wp2
      go_region_law (first
        | (refine step_append_lies _ (by rfl) _ _ 48 (by rfl) B 3 i0 _ 1 8 Tryz.underlying48 hi0 hz0 hz1 hz2 rfl (by decide) _ ts.length (ts.map (Value.int .i64)) (by rfl) (hr4.alloc _) ⟨W4.heap.size, 0, none⟩ 1 1 [.int .i64 (x + (W : Int))] (by rfl) rfl (World.news_of_block (alloc_at _ _ _ (by simp))) (by simp [Value.oneCell']) (by decide) (by unfold maxLen; omega) (by omega) (by simp <;> omega) (W4.heap.size + 1) (by simp) ?_; intro g7 cap7 w7 hown7 hgrow7 hat7 hlt7; have hX7 := (hk4.alloc (.cells #[.int .i64 (x + (W : Int))] 3)).of_eq (hgrow7.block C (by simp; omega) (fun e => hap e.symm)); have u2 := hX7.cell 2; have uf := hX7.frozen 2; have u3 := hX7.cell 3; have hXl7 := hX7.lt; simp at u2 u3))
      all_goals
        have hend := clk_end (o := .cells #[.int .i64 (x + (W : Int))] 3) hk4 hap hc4 hown7 ⟨hgrow7.os, hgrow7.tape, hgrow7.output, hgrow7.size, hgrow7.block⟩ (by rcases hat7 with e | e; exact .inl e; exact .inr (by omega))
        have z3 := hend.1.blk.cell 3; have zl := hend.1.blk.lt
        simp at z3
        clear hown7 hgrow7
        go_wp2
        go_ret
        first | exact ⟨_, rfl, hend⟩ | exact ⟨rfl, _, hend⟩
    · have h2' : decide (now + by_ - x < (W : Int)) = false := by simpa using h2
      have et : t = now + by_ := by rw [HT2.out, if_neg (fun h => h2 h.2)]
      subst et
      clear HT2
      go_quiet (fail)
      go_upto_region 5 with fail
      have hk4 : Blk (W1.drewN nq) C _ _ := hk1
      have hr4 : (W1.drewN nq).ownsRow B 3 1 _ ts.length (ts.map (Value.int .i64)) := hr1
      have hc4 : Chg _ w (W1.drewN nq) := ⟨hch1.os, hch1.tape, hch1.output, hch1.size, hch1.block⟩
      generalize W1.drewN nq = W4 at *
      clear hk1 hr1 hch1 hW1 a0 a1 a2 a3 g3 hl1 hx hgc hg hcs1 hk hr hcs
      have hs4 := hc4.size
      have b2 := hk4.cell 2; have b3 := hk4.cell 3; have hl4 := hk4.lt
      simp at b2 b3
      go_region_law (first
        | (refine step_append_lies _ (by rfl) _ _ 48 (by rfl) B 3 i0 _ 1 8 Tryz.underlying48 hi0 hz0 hz1 hz2 rfl (by decide) _ ts.length (ts.map (Value.int .i64)) (by rfl) (hr4.alloc _) ⟨W4.heap.size, 0, none⟩ 1 1 [.int .i64 (now + by_)] (by rfl) rfl (World.news_of_block (alloc_at _ _ _ (by simp))) (by simp [Value.oneCell']) (by decide) (by unfold maxLen; omega) (by omega) (by simp <;> omega) (W4.heap.size + 1) (by simp) ?_; intro g7 cap7 w7 hown7 hgrow7 hat7 hlt7; have hX7 := (hk4.alloc (.cells #[.int .i64 (now + by_)] 3)).of_eq (hgrow7.block C (by simp; omega) (fun e => hap e.symm)); have u2 := hX7.cell 2; have uf := hX7.frozen 2; have u3 := hX7.cell 3; have hXl7 := hX7.lt; simp at u2 u3))
      all_goals
        have hend := clk_end (o := .cells #[.int .i64 (now + by_)] 3) hk4 hap hc4 hown7 ⟨hgrow7.os, hgrow7.tape, hgrow7.output, hgrow7.size, hgrow7.block⟩ (by rcases hat7 with e | e; exact .inl e; exact .inr (by omega))
        have z3 := hend.1.blk.cell 3; have zl := hend.1.blk.lt
        simp at z3
        clear hown7 hgrow7
        go_wp2
        go_ret
        first | exact ⟨_, rfl, hend⟩ | exact ⟨rfl, _, hend⟩
  · have h1' : decide ((R : Int) ≤ (ts.length : Int)) = false := by simp; omega
    have et : t = now + by_ := by rw [← HT.out]; unfold clkT; rw [if_neg (fun h => h1 h.1)]
    subst et
    clear HT
    go_quiet (fail)
    go_upto_region 5 with fail
    have hk4 : Blk (W1.drewN nq) C _ _ := hk1
    have hr4 : (W1.drewN nq).ownsRow B 3 1 _ ts.length (ts.map (Value.int .i64)) := hr1
    have hc4 : Chg _ w (W1.drewN nq) := ⟨hch1.os, hch1.tape, hch1.output, hch1.size, hch1.block⟩
    generalize W1.drewN nq = W4 at *
    clear hk1 hr1 hch1 hW1 a0 a1 a2 a3 g3 hl1  hcs1 hk hr hcs
    have hs4 := hc4.size
    have b2 := hk4.cell 2; have b3 := hk4.cell 3; have hl4 := hk4.lt
    simp at b2 b3
    go_region_law (first
      | (refine step_append_lies _ (by rfl) _ _ 48 (by rfl) B 3 i0 _ 1 8 Tryz.underlying48 hi0 hz0 hz1 hz2 rfl (by decide) _ ts.length (ts.map (Value.int .i64)) (by rfl) (hr4.alloc _) ⟨W4.heap.size, 0, none⟩ 1 1 [.int .i64 (now + by_)] (by rfl) rfl (World.news_of_block (alloc_at _ _ _ (by simp))) (by simp [Value.oneCell']) (by decide) (by unfold maxLen; omega) (by omega) (by simp <;> omega) (W4.heap.size + 1) (by simp) ?_; intro g7 cap7 w7 hown7 hgrow7 hat7 hlt7; have hX7 := (hk4.alloc (.cells #[.int .i64 (now + by_)] 3)).of_eq (hgrow7.block C (by simp; omega) (fun e => hap e.symm)); have u2 := hX7.cell 2; have uf := hX7.frozen 2; have u3 := hX7.cell 3; have hXl7 := hX7.lt; simp at u2 u3))
    all_goals
      have hend := clk_end (o := .cells #[.int .i64 (now + by_)] 3) hk4 hap hc4 hown7 ⟨hgrow7.os, hgrow7.tape, hgrow7.output, hgrow7.size, hgrow7.block⟩ (by rcases hat7 with e | e; exact .inl e; exact .inr (by omega))
      have z3 := hend.1.blk.cell 3; have zl := hend.1.blk.lt
      simp at z3
      clear hown7 hgrow7
      go_wp2
      go_ret
      first | exact ⟨_, rfl, hend⟩ | exact ⟨rfl, _, hend⟩
end Go.Proofs.YtddbjcfdmdbmkaaGreatDoor

namespace Go.Proofs.YtddbjcfdmdbmkaaGreatDoor
open Go.RowKit

def evC (e : Ev) : List Value := [.int .i64 e.time, .int .i64 e.kind, .int .i64 e.a, .int .i64 e.b, .int .i64 e.c]
theorem Tryz.infoEvent : (Tryz.prog.info? 44).map (fun i => (i.zero, i.size, i.bytes)) = some (some (.agg #[.int .i64 0, .int .i64 0, .int .i64 0, .int .i64 0, .int .i64 0]), 5, 40) := by kernel_rfl
structure RawAt (w : World) (v : Value) (zs : List Int) : Prop where
  form : ∃ a c, v = .slice a zs.length c ∧ (0 < zs.length → ∃ p : Addr, a = some p ∧ p.block < w.heap.size ∧ ∀ k, (hk : k < zs.length) → w.cell? (p.add k) = some (.int .i64 zs[k]))
  in64 : ∀ z ∈ zs, In64 z
def rawN (zs : List Int) : List Nat := zs.map fun z => pickP z 1099511627776
theorem ClkAt.to {w w' : World} {B C W R : Nat} {ts : List Int} {now : Int} {tv : Value} (h : ClkAt w B C W R ts now tv) (hk : ∀ b, b = C ∨ tv.ownBlock = some b → w'.heap[b]? = w.heap[b]?) : ClkAt w' B C W R ts now tv :=
  ⟨h.blk.of_eq (hk _ (.inl rfl)), row_of_blk h.row (fun g hg => hk g (.inr hg))⟩
theorem nowOf_snoc (evs : List Ev) (e : Ev) : nowOf (evs ++ [e]) = e.time := by
  unfold nowOf lastT
  rw [if_neg (by simp), List.length_append, List.length_singleton, Nat.add_sub_cancel, evAt_new]
theorem add_block (p : Addr) (k : Nat) : (p.add k).block = p.block := by unfold Addr.add; split <;> rfl
theorem cell_blk {w w' : World} (a : Addr) (h : w'.heap[a.block]? = w.heap[a.block]?) : w'.cell? a = w.cell? a := by
  unfold World.cell?
  simp only [h]
theorem ev_mid {w wr w1 w3 : World} {C W R i : Nat} {ts : List Int} {now t : Int} {tv tv' lv : Value} {xs : List Value} {o : Obj} {e0 : Ev} (hCl : C < w.heap.size) (hch : Chg (fun b => b = C) w wr) (hrow : wr.ownsRow w.heap.size 44 5 lv i xs) (hclk : ClkAt wr w.heap.size C W R ts now tv) (hb1 : Below wr.heap.size wr w1) (ho : o = .cells #[.int .i64 e0.time, .int .i64 e0.kind, .int .i64 e0.a, .int .i64 e0.b, .int .i64 e0.c] 44) (h3 : ClkAt w3 w.heap.size C W R (ts ++ [t]) t tv') (hc3 : Chg (fun b => b = C ∨ tv.ownBlock = some b) (w1.alloc o) w3) (h3v : ∀ b, tv'.ownBlock = some b → tv.ownBlock = some b ∨ (w1.alloc o).heap.size ≤ b) :
    Blk (w3.setCell ⟨w1.heap.size, 0, none⟩ (.int .i64 t)) w1.heap.size #[.int .i64 t, .int .i64 e0.kind, .int .i64 e0.a, .int .i64 e0.b, .int .i64 e0.c] 44 ∧ (w3.setCell ⟨w1.heap.size, 0, none⟩ (.int .i64 t)).ownsRow w.heap.size 44 5 lv i xs ∧ ClkAt (w3.setCell ⟨w1.heap.size, 0, none⟩ (.int .i64 t)) w.heap.size C W R (ts ++ [t]) t tv' ∧ Chg (fun b => b = C) w (w3.setCell ⟨w1.heap.size, 0, none⟩ (.int .i64 t)) := by
  have s1 := hch.size
  have s2 := hb1.size
  have s3 := hc3.size
  have s4 : (w1.alloc o).heap.size = w1.heap.size + 1 := by simp
  have hN : Blk (w1.alloc o) w1.heap.size #[.int .i64 e0.time, .int .i64 e0.kind, .int .i64 e0.a, .int .i64 e0.b, .int .i64 e0.c] 44 := by rw [ho]; exact Blk.new w1 _ _
  have htv : ∀ b, tv.ownBlock = some b → w.heap.size ≤ b ∧ b < wr.heap.size := fun b hb => hclk.row.lt b hb
  have hN3 : Blk w3 w1.heap.size _ _ := hN.of_eq (hc3.at _ (by omega) (fun e => by
    rcases e with e | e
    · omega
    · have := htv _ e; omega))
  have hN4 := hN3.set 0 (.int .i64 t)
  simp at hN4
  have hat : ∀ b, b < w1.heap.size → b ≠ C → tv.ownBlock ≠ some b → (w3.setCell ⟨w1.heap.size, 0, none⟩ (.int .i64 t)).heap[b]? = w1.heap[b]? := fun b h1 h2 h3 => by
    rw [Below.heap_setCell _ _ _ _ (by simp; omega), hc3.at b (by omega) (fun e => by rcases e with e | e; exact h2 e; exact h3 e), heap_alloc_old _ _ h1]
  refine ⟨hN4, row_of_blk hrow (fun z hz => ?_), h3.to (fun b hb => Below.heap_setCell _ _ _ _ (fun e => ?_)), ?_⟩
  · have := hrow.lt z hz
    rw [hat z (by omega) (by omega) (fun e => rows_apart hclk.row hrow (by decide) z e hz), hb1.block z this.2]
  · simp at e
    rcases hb with rfl | hb
    · omega
    · rcases h3v b hb with q | q
      · have := htv _ q; omega
      · omega
  · have h5 : Chg (fun b => b = C) w w3 := ((hch.trans (Chg.below (fun b => b = C) hb1) (fun _ _ e => e)).alloc o).trans hc3 (fun b hb e => by
      rcases e with e | e
      · exact e
      · have := htv _ e; omega)
    exact h5.setCell (.inr (by show w.heap.size ≤ w1.heap.size; omega)) _
set_option maxRecDepth 100000 in
set_option maxHeartbeats 1600000 in
theorem evsK_p {w : World} {C W R : Nat} {zs : List Int} {rv : Value} (hraw : RawAt w rv zs) (hl : zs.length ≤ 2000000) (hC : Blk w C #[.int .i64 (W : Nat), .int .i64 (R : Nat), .slice none 0 0, .int .i64 0] 54) (hne : 0 < zs.length → rv.ownBlock ≠ some C) (hW : W ≤ 1000) (hR : 1 ≤ R ∧ R ≤ 100) :
    Calls Tryz.prog 29 #[rv, .pointer (some ⟨C, 0, none⟩)] w fun x w' => ∃ v, x = .returned v ∧ w'.ownsRow w.heap.size 44 5 v zs.length (flat evC (clkEvs W R (rawN zs))) ∧ Chg (fun b => b = C) w w' := by
  obtain ⟨i0, hi0, hz0, hz1, hz2⟩ := info_parts Tryz.infoEvent
  obtain ⟨⟨ra, rc, rfl, hcs⟩, h64⟩ := hraw
  have hCl := hC.lt
  go_enter Tryz.func29, Tryz.ntmps29
  go_wp2
  go_loopw [5, 6] (fun lv iv wr => ∃ (i : Nat) (tv : Value), i ≤ zs.length ∧ iv = .int .i64 (i : Nat) ∧ wr.ownsRow w.heap.size 44 5 lv i (flat evC (clkEvs W R (rawN (zs.take i)))) ∧ ClkAt wr w.heap.size C W R ((clkEvs W R (rawN (zs.take i))).map (·.time)) (nowOf (clkEvs W R (rawN (zs.take i)))) tv ∧ Chg (fun b => b = C) w wr) (fun _ iv _ => zs.length - (intOf iv).toNat)
  case atStart => exact ⟨0, .slice none 0 0, Nat.zero_le _, rfl, World.ownsRow_nil _ _ _ _, ⟨hC, World.ownsRow_nil _ _ _ _⟩, Chg.refl _ _⟩
  case round =>
    obtain ⟨i, tv, hi, rfl, hrow, hclk, hch⟩ := hrel
    have hws := hch.size
    obtain ⟨la, lb, lc, rfl⟩ := row_form hrow
    by_cases hlt : i < zs.length
    · obtain ⟨p, rfl, hrb, hrc⟩ := hcs (by omega)
      have hz := hrc i hlt
      have hz64 := h64 _ (List.getElem_mem hlt)
      have hrbC : p.block ≠ C := fun e => hne (by omega) (by rw [← e]; rfl)
      have hzr : wr.cell? (p.add i) = some (.int .i64 zs[i]) := (cell_blk (p.add i) (by rw [add_block]; exact hch.at p.block hrb hrbC)).trans hz
      have hrl : p.block < wr.heap.size := by omega
      have hT : zs.take (i + 1) = zs.take i ++ [zs[i]] := List.take_succ_eq_append_getElem hlt
      have hE : clkEvs W R (rawN (zs.take (i + 1))) = clkEvs W R (rawN (zs.take i)) ++ [clkE W R (clkEvs W R (rawN (zs.take i))) (pickP zs[i] 1099511627776)] := by
        rw [hT]
        unfold rawN
        rw [List.map_append, List.map_cons, List.map_nil, clk_snoc]
      have hall := clk_all (W := (W : Int)) (by omega) hR.1 (rawN (zs.take i))
      have hlen : (clkEvs W R (rawN (zs.take i))).length = i := by rw [clk_len]; unfold rawN; simp; omega
      have hz0' := fun w' => evK_p zs[i] 0 hz64 (Int.le_refl _) (by omega) w'
      have hnl := pick_lt zs[i] (show 0 < 1099511627776 by omega)
      generalize hns : pickP zs[i] 1099511627776 = n at *
      generalize zs[i] = z at *
      have hnow := hall.now (by omega)
      have hts : ∀ t ∈ (clkEvs W R (rawN (zs.take i))).map (·.time), 0 ≤ t ∧ t ≤ 1000000000000 := by
        intro t ht
        obtain ⟨e, he, rfl⟩ := List.mem_map.1 ht
        obtain ⟨j, hj, rfl⟩ := List.mem_iff_getElem.1 he
        have h1 := hall.low j hj
        have h2 := hall.high j hj
        rw [evAt_get hj] at h1 h2
        have h3 : ((W : Int) + 3) * ((j : Int) + 1) ≤ 1003 * 2000001 := Int.mul_le_mul (by omega) (by omega) (by omega) (by omega)
        exact ⟨h1, by omega⟩
      have hnow2 : nowOf (clkEvs W R (rawN (zs.take i))) ≤ 1000000000000 := by
        have h3 : ((W : Int) + 3) * ((clkEvs W R (rawN (zs.take i))).length : Int) ≤ 1003 * 2000001 := Int.mul_le_mul (by omega) (by omega) (by omega) (by omega)
        omega
      have hlT : ((clkEvs W R (rawN (zs.take i))).map (·.time)).length ≤ 100000000 := by rw [List.length_map, hlen]; omega
      generalize hes : clkEvs W R (rawN (zs.take i)) = es at *
      obtain ⟨e0, He0⟩ : ∃ e0, Hid (evM n 0 = e0) := ⟨_, rfl⟩
      rw [He0.out] at hz0'
      unfold evVal at hz0'
      have Het : Hid (e0.time = (n % 4 : Nat)) := by show _ = _; rw [← He0.out]; unfold evM; simp
      have hetb : 0 ≤ e0.time ∧ e0.time ≤ 3 := by rw [Het.out]; omega
      have Hey : Hid (clkE W R es n = ⟨clkT W R (es.map (·.time)) (nowOf es + e0.time), e0.kind, e0.a, e0.b, e0.c⟩) := by
        show _ = _
        rw [Het.out]
        unfold clkE
        rw [He0.out]
      have hki : (i : Int) < (zs.length : Int) := by omega
      have hk0 : (0 : Int) ≤ (i : Int) := by omega
      have hi2 : (i : Int) ≤ 2000000 := by omega
      clear hrc hcs hz hall hT
      go_upto_region 6 with (go_at_call 34; refine (hz0' _).mono ?_; rintro x1 w1 ⟨rfl, hb1⟩)
      have hs1 := hb1.size
      have hN := Blk.new w1 #[.int .i64 e0.time, .int .i64 e0.kind, .int .i64 e0.a, .int .i64 e0.b, .int .i64 e0.c] 44
      have hclk1 : ClkAt (w1.alloc (.cells #[.int .i64 e0.time, .int .i64 e0.kind, .int .i64 e0.a, .int .i64 e0.b, .int .i64 e0.c] 44)) w.heap.size C W R (es.map (·.time)) (nowOf es) tv := hclk.to (fun b hb => by
        have hb' : b < wr.heap.size := by
          rcases hb with rfl | hb
          · exact hclk.blk.lt
          · exact (hclk.row.lt b hb).2
        rw [heap_alloc_old _ _ (by omega), hb1.block b hb'])
      have hnx := clkNext_p (by_ := e0.time) hclk1 hR.1 hR.2 hW hlT ⟨hnow.1, hnow2⟩ hts hetb (by simp; omega)
      have HM : Hid (∀ (w3 : World) (tv' : Value), ClkAt w3 w.heap.size C W R (es.map (·.time) ++ [clkT W R (es.map (·.time)) (nowOf es + e0.time)]) (clkT W R (es.map (·.time)) (nowOf es + e0.time)) tv' → Chg (fun b => b = C ∨ tv.ownBlock = some b) (w1.alloc (.cells #[.int .i64 e0.time, .int .i64 e0.kind, .int .i64 e0.a, .int .i64 e0.b, .int .i64 e0.c] 44)) w3 → (∀ b, tv'.ownBlock = some b → tv.ownBlock = some b ∨ (w1.alloc (.cells #[.int .i64 e0.time, .int .i64 e0.kind, .int .i64 e0.a, .int .i64 e0.b, .int .i64 e0.c] 44)).heap.size ≤ b) → _) := fun w3 tv' q1 q2 q3 => ev_mid hCl hch hrow hclk hb1 rfl q1 q2 q3
      have HN3 : Hid (∀ w3 : World, Chg (fun b => b = C ∨ tv.ownBlock = some b) (w1.alloc (.cells #[.int .i64 e0.time, .int .i64 e0.kind, .int .i64 e0.a, .int .i64 e0.b, .int .i64 e0.c] 44)) w3 → Blk w3 w1.heap.size #[.int .i64 e0.time, .int .i64 e0.kind, .int .i64 e0.a, .int .i64 e0.b, .int .i64 e0.c] 44) := fun w3 q => hN.of_eq (q.at _ hN.lt (fun e => by
        rcases e with e | e
        · omega
        · have := hclk.row.lt _ e; omega))
      generalize hW2 : w1.alloc (.cells #[.int .i64 e0.time, .int .i64 e0.kind, .int .i64 e0.a, .int .i64 e0.b, .int .i64 e0.c] 44) = W2 at *
      generalize hct : clkT W R (es.map (·.time)) (nowOf es + e0.time) = t at *
      have v0 := hN.cell 0; have l3 := hN.lt
      simp at v0
      have HE : Hid (clkEvs W R (rawN (zs.take (i + 1))) = es ++ [⟨t, e0.kind, e0.a, e0.b, e0.c⟩]) := by show _ = _; rw [hE, Hey.out]
      clear hz0' hclk1 hN hE Hey Het hct hW2 hlen hes hts hlT hnow hnow2 hnl
      go_upto_region 7 with (go_at_call 51; refine hnx.mono ?_; rintro x2 w3 ⟨tv', rfl, h3, hc3, h3v⟩; have hN3 := HN3.out w3 hc3; have y0 := hN3.cell 0; have yf := hN3.frozen 0; have yl := hN3.lt; simp at y0)
      obtain ⟨m1, m2, m3, m4⟩ := HM.out w3 tv' h3 hc3 h3v
      clear HM HN3 hnx h3 hc3 h3v hN3 y0 yf yl v0 l3
      generalize w3.setCell ⟨w1.heap.size, 0, none⟩ (.int .i64 t) = W4 at *
      have z0 := m1.cell 0; have z1 := m1.cell 1; have z2 := m1.cell 2; have z3 := m1.cell 3; have z4 := m1.cell 4; have zl := m1.lt
      simp at z0 z1 z2 z3 z4
      have hs4 := m4.size
      go_wp2_with (at_builtin; refine wpList_append_lies _ rfl _ _ 50 rfl w.heap.size 44 i0 _ 5 40 Tryz.underlying50 hi0 hz0 hz1 hz2 rfl (by decide) _ i (flat evC es) (by rfl) (m2.alloc _) ⟨W4.heap.size, 0, none⟩ 1 1 [.int .i64 t, .int .i64 e0.kind, .int .i64 e0.a, .int .i64 e0.b, .int .i64 e0.c] (by rfl) rfl (World.news_of_block (alloc_at _ _ _ (by simp))) (by simp [Value.oneCell']) (by decide) (by unfold maxLen; omega) (by omega) (by simp; omega) (W4.heap.size + 1) (by simp) ?_; intro g7 cap7 w7 hown7 hgrow7 hat7 hlt7)
      go_roundw
      case rel =>
        refine ⟨i + 1, tv', hlt, by go_num, ?_, ?_, ?_⟩
        · rw [HE.out, flat_snoc]; exact hown7
        · have k : ClkAt w7 w.heap.size C W R (es.map (·.time) ++ [t]) t tv' := m3.to (fun b hb => by
            have hb1 : b < W4.heap.size := by
              rcases hb with rfl | hb
              · exact m3.blk.lt
              · exact (m3.row.lt b hb).2
            rw [hgrow7.block b (by simp; omega) (fun e => by
              rcases hb with rfl | hb
              · have := (m2.lt b e.symm).1; omega
              · exact rows_apart m3.row m2 (by decide) b hb e.symm), heap_alloc_old _ _ hb1])
          rw [HE.out, List.map_append, nowOf_snoc]
          exact k
        · exact (m4.alloc _).trans (Chg.grown hgrow7) (fun b hb e => by have := (m2.lt b e).1; omega)
      case measure => simp [intOf]; omega
    · have ei : i = zs.length := by omega
      subst ei
      rw [List.take_length] at hrow
      clear hclk hcs
      go_wp2
      go_ret
      exact ⟨_, rfl, hrow, hch⟩
end Go.Proofs.YtddbjcfdmdbmkaaGreatDoor
