import Derived.Test.YtddbjcfdmdbmkaaGreatDoorB27
set_option linter.unusedVariables false
set_option linter.unusedSimpArgs false
namespace Go.Proofs.YtddbjcfdmdbmkaaGreatDoor
open Go.RowKit

def Chg (M : Nat → Prop) (w w' : World) : Prop := Kept (fun b => b < w.heap.size ∧ ¬ M b) w w'
theorem Chg.refl (M : Nat → Prop) (w : World) : Chg M w w := Kept.refl _ w
theorem Chg.size {M : Nat → Prop} {w w' : World} (h : Chg M w w') : w.heap.size ≤ w'.heap.size := Kept.size h
theorem Chg.at {M : Nat → Prop} {w w' : World} (h : Chg M w w') (b : Nat) (hb : b < w.heap.size) (hM : ¬ M b) : w'.heap[b]? = w.heap[b]? := Kept.block h b ⟨hb, hM⟩
theorem Chg.trans {M M' : Nat → Prop} {w w' w'' : World} (h : Chg M w w') (k : Chg M' w' w'') (hM : ∀ b, b < w.heap.size → M' b → M b) : Chg M w w'' :=
  Kept.trans h (Kept.mono k fun b hb => ⟨Nat.lt_of_lt_of_le hb.1 h.size, fun hm => hb.2 (hM b hb.1 hm)⟩)
theorem Chg.mono {M M' : Nat → Prop} {w w' : World} (h : Chg M w w') (hM : ∀ b, b < w.heap.size → M b → M' b) : Chg M' w w' := Kept.mono h fun b hb => ⟨hb.1, fun hm => hb.2 (hM b hb.1 hm)⟩
theorem Chg.grown {w w' : World} {row : Option Nat} (h : w.grownBy w' row) : Chg (fun b => row = some b) w w' := ⟨h.os, h.tape, h.output, h.size, fun b hb => h.block b hb.1 (fun e => hb.2 e.symm)⟩
theorem Chg.below {w w' : World} (M : Nat → Prop) (h : Below w.heap.size w w') : Chg M w w' := ⟨h.os, h.tape, h.output, h.size, fun b hb => h.block b hb.1⟩
theorem Chg.setCell {M : Nat → Prop} {w w' : World} (h : Chg M w w') {p : Addr} (hp : M p.block ∨ w.heap.size ≤ p.block) (v : Value) : Chg M w (w'.setCell p v) :=
  Kept.setCell h (fun hk => by rcases hp with hp | hp; exact hk.2 hp; exact absurd hk.1 (by omega)) v
theorem Chg.alloc {M : Nat → Prop} {w w' : World} (h : Chg M w w') (o : Obj) : Chg M w (w'.alloc o) := Kept.alloc h (fun _ hk => Nat.lt_of_lt_of_le hk.1 h.size) o
theorem Chg.cell {M : Nat → Prop} {w w' : World} (h : Chg M w w') {b k : Nat} (hb : b < w.heap.size) (hM : ¬ M b) : w'.cell? ⟨b, k, none⟩ = w.cell? ⟨b, k, none⟩ := cell_eq (h.at b hb hM) k

structure HeapX (F : Nat → Prop) (w : World) (X : Nat) (x0 x1 x2 x3 x4 rv : Value) (rs : List MRun) (tm : MRun → Int) : Prop where
  xb : Blk w X #[x0, x1, x2, x3, x4, rv] 110
  row : w.ownsRow 0 163 2 rv rs.length (flat MRun.cells rs)
  fl : ∀ b, F b → b < w.heap.size
  nX : ¬ F X
  nR : ∀ g, rv.ownBlock = some g → ¬ F g
  first : ∀ r ∈ rs, ∃ t p, r.ta = some ⟨t, 0, none⟩ ∧ 0 < r.ps.length ∧ w.cell? ⟨t, 0, none⟩ = some (.pointer (some ⟨p, 0, none⟩)) ∧ w.cell? ⟨p, 0, none⟩ = some (.int .i64 (tm r)) ∧ t < w.heap.size ∧ p < w.heap.size ∧ F t ∧ F p
  sv : ∀ r ∈ rs, ∃ a b c, r.sv = .slice a b c
theorem HeapX.ne {F : Nat → Prop} {w : World} {X : Nat} {x0 x1 x2 x3 x4 rv : Value} {rs : List MRun} {tm : MRun → Int} (h : HeapX F w X x0 x1 x2 x3 x4 rv rs tm) : ∀ g, rv.ownBlock = some g → g ≠ X := fun g hg e => blk_apart h.xb h.row (by decide) (e ▸ hg)
theorem HeapX.open {F : Nat → Prop} {w : World} {X : Nat} {x0 x1 x2 x3 x4 rv : Value} {rs : List MRun} {tm : MRun → Int} (h : HeapX F w X x0 x1 x2 x3 x4 rv rs tm) : (rv = .slice none 0 0 ∧ rs = []) ∨ ∃ g cap, rv = .slice (some ⟨g, 0, none⟩) rs.length cap ∧ HeapM w X g cap rs tm := by
  have hrow := h.row
  rcases h.row.2 with ⟨h1, h2⟩ | ⟨g, cap, cur, h1, _⟩
  · exact .inl ⟨h1, List.length_eq_zero_iff.1 h2⟩
  · refine .inr ⟨g, cap, h1, ?_⟩
    have hg : rv.ownBlock = some g := by rw [h1]; rfl
    refine ⟨h.xb.lt, h.ne g hg, ?_, ?_, fun r hr => ?_, h.sv⟩
    · rw [h.xb.cell 5]; simp [h1]
    · rw [← h1]; exact hrow
    · obtain ⟨t, p, e1, e2, e3, e4, e5, e6, e7, e8⟩ := h.first r hr
      exact ⟨t, p, e1, e2, e3, e4, e5, e6, fun e => h.nR g hg (e ▸ e7), fun e => h.nR g hg (e ▸ e8)⟩
theorem HeapX.turned {F : Nat → Prop} {w w' : World} {X : Nat} {x0 x1 x2 x3 x4 : Value} {g cap : Nat} {rs rs' : List MRun} {tm : MRun → Int} (h : HeapX F w X x0 x1 x2 x3 x4 (.slice (some ⟨g, 0, none⟩) rs.length cap) rs tm) (hM : HeapM w' X g cap rs' tm) (hp : rs'.Perm rs) (hg : w.grownBy w' (some g)) : HeapX F w' X x0 x1 x2 x3 x4 (.slice (some ⟨g, 0, none⟩) rs.length cap) rs' tm := by
  have hne := h.ne g rfl
  have hl := hp.length_eq
  refine ⟨h.xb.of_eq (hg.block X h.xb.lt (fun e => hne (by simpa using e.symm))), ?_, fun b hb => ?_, h.nX, h.nR, fun r hr => ?_, fun r hr => h.sv r (hp.mem_iff.1 hr)⟩
  · have := hM.row; rw [hl] at this; rw [hl]; exact this
  · exact Nat.lt_of_lt_of_le (h.fl b hb) hg.size
  · obtain ⟨t, p, e1, e2, e3, e4, e5, e6, e7, e8⟩ := h.first r (hp.mem_iff.1 hr)
    have nt : t ≠ g := fun e => h.nR g rfl (e ▸ e7)
    have np : p ≠ g := fun e => h.nR g rfl (e ▸ e8)
    exact ⟨t, p, e1, e2, (cell_eq (hg.block t e5 (fun e => nt (by simpa using e))) 0).trans e3, (cell_eq (hg.block p e6 (fun e => np (by simpa using e))) 0).trans e4, Nat.lt_of_lt_of_le e5 hg.size, Nat.lt_of_lt_of_le e6 hg.size, e7, e8⟩
theorem HeapX.first_to {F : Nat → Prop} {w w' : World} {rs : List MRun} {tm : MRun → Int} {M : Nat → Prop} (h : ∀ r ∈ rs, ∃ t p, r.ta = some ⟨t, 0, none⟩ ∧ 0 < r.ps.length ∧ w.cell? ⟨t, 0, none⟩ = some (.pointer (some ⟨p, 0, none⟩)) ∧ w.cell? ⟨p, 0, none⟩ = some (.int .i64 (tm r)) ∧ t < w.heap.size ∧ p < w.heap.size ∧ F t ∧ F p) (hc : Chg M w w') (hM : ∀ b, M b → ¬ F b) :
    ∀ r ∈ rs, ∃ t p, r.ta = some ⟨t, 0, none⟩ ∧ 0 < r.ps.length ∧ w'.cell? ⟨t, 0, none⟩ = some (.pointer (some ⟨p, 0, none⟩)) ∧ w'.cell? ⟨p, 0, none⟩ = some (.int .i64 (tm r)) ∧ t < w'.heap.size ∧ p < w'.heap.size ∧ F t ∧ F p := fun r hr => by
  obtain ⟨t, p, e1, e2, e3, e4, e5, e6, e7, e8⟩ := h r hr
  exact ⟨t, p, e1, e2, (hc.cell e5 (fun hm => hM t hm e7)).trans e3, (hc.cell e6 (fun hm => hM p hm e8)).trans e4, Nat.lt_of_lt_of_le e5 hc.size, Nat.lt_of_lt_of_le e6 hc.size, e7, e8⟩

theorem flat_take2 {f : MRun → List Value} (hf : ∀ x, (f x).length = 2) (l : List MRun) (k : Nat) : (flat f l).take (k * 2) = flat f (l.take k) := by
  induction l generalizing k with
  | nil => simp [flat]
  | cons x l ih =>
    cases k with
    | zero => simp [flat]
    | succ k =>
      have hc : ∀ (z : MRun) (m : List MRun), flat f (z :: m) = f z ++ flat f m := fun z m => by simp [flat]
      rw [hc, List.take_succ_cons, hc, ← ih, show (k + 1) * 2 = (f x).length + k * 2 by rw [hf]; omega, List.take_length_add_append]
theorem row_cut {w : World} {base : Nat} {e : TypeId} {s g n m cap : Nat} {xs : List Value} (h : w.ownsRow base e s (.slice (some ⟨g, 0, none⟩) n cap) n xs) (hm : m ≤ n) : w.ownsRow base e s (.slice (some ⟨g, 0, none⟩) m cap) m (xs.take (m * s)) := by
  obtain ⟨h1, h2⟩ := h
  have hle : m * s ≤ n * s := Nat.mul_le_mul_right _ hm
  refine ⟨by rw [List.length_take, h1]; omega, ?_⟩
  rcases h2 with ⟨h, _⟩ | ⟨g', cap', cur, he, hb, hg, hn, hcm, hcs, htake⟩
  · cases h
  · cases he
    refine .inr ⟨g, cap, cur, rfl, hb, hg, by omega, hcm, hcs, ?_⟩
    rw [← htake, List.take_take, Nat.min_eq_left hle]

set_option maxRecDepth 100000 in
set_option maxHeartbeats 3200000 in
theorem runsPop_p {F : Nat → Prop} {w : World} {X g cap : Nat} {x0 x1 x2 x3 x4 : Value} {rs : List MRun} {tm : MRun → Int} (h : HeapX F w X x0 x1 x2 x3 x4 (.slice (some ⟨g, 0, none⟩) rs.length cap) rs tm) (h0 : 0 < rs.length) (hlm : rs.length ≤ 1000000) :
    Calls Tryz.prog 282 #[.pointer (some ⟨X, 5, none⟩)] w fun e w' => (∃ v, e = .returned v) ∧ HeapX F w' X x0 x1 x2 x3 x4 (.slice (some ⟨g, 0, none⟩) (rs.length - 1) cap) (rs.take (rs.length - 1)) tm ∧ Chg (fun b => b = X ∨ b = g) w w' := by
  have hne := h.ne g rfl
  obtain ⟨l, hl⟩ : ∃ l, rs.length = l + 1 := ⟨rs.length - 1, by omega⟩
  obtain ⟨a0, a1⟩ := run_cells h.row l (by omega)
  obtain ⟨sa, sb, sc, hsv⟩ := h.sv rs[l] (List.getElem_mem _)
  have hg := (h.row.lt g rfl).2
  obtain ⟨cur, hB, hcs⟩ : ∃ cur, Blk w g cur 163 ∧ rs.length * 2 ≤ cur.size := by
    rcases h.row.2 with ⟨e, _⟩ | ⟨g', cap', cur, he, _, hgg, hn, _, hcs, _⟩
    · cases e
    · cases he; exact ⟨cur, hgg, by rw [hcs]; exact Nat.mul_le_mul_right _ hn⟩
  have hcap : rs.length ≤ cap := by
    rcases h.row.2 with ⟨e, _⟩ | ⟨g', cap', cur, he, _, hgg, hn, _⟩
    · cases e
    · cases he; exact hn
  rw [hsv] at a0
  generalize rs[l].ta = ta at *
  generalize rs[l].ps.length = tb at *
  generalize rs[l].tc = tc at *
  have hX := h.xb
  have c5 := hX.cell 5; have hXl := hX.lt
  simp at c5
  have f0 := hB.frozen (l * 2); have f1 := hB.frozen (l * 2 + 1); have xf5 := hX.frozen 5
  have hB1 := hB.set (l * 2) (.slice none 0 0)
  have ef1 := hB1.frozen (l * 2 + 1)
  have hX2 := (hX.other ⟨g, l * 2, none⟩ (.slice none 0 0) hne).other ⟨g, l * 2 + 1, none⟩ (.slice none 0 0) hne
  have hX3 := (hX2.set 5 (.slice (some ⟨g, 0, none⟩) l cap)).alloc (.cells #[.slice sa sb sc, .slice ta tb tc] 163)
  simp at hX3
  have hch : Chg (fun b => b = X ∨ b = g) w ((((w.setCell ⟨g, l * 2, none⟩ (.slice none 0 0)).setCell ⟨g, l * 2 + 1, none⟩ (.slice none 0 0)).setCell ⟨X, 5, none⟩ (.slice (some ⟨g, 0, none⟩) l cap)).alloc (.cells #[.slice sa sb sc, .slice ta tb tc] 163)) :=
    ((((Chg.refl _ w).setCell (p := ⟨g, l * 2, none⟩) (.inl (.inr rfl)) _).setCell (p := ⟨g, l * 2 + 1, none⟩) (.inl (.inr rfl)) _).setCell (p := ⟨X, 5, none⟩) (.inl (.inl rfl)) _).alloc _
  have hfl : (flat MRun.cells rs).length = rs.length * 2 := h.row.1
  have hE : HeapX F ((((w.setCell ⟨g, l * 2, none⟩ (.slice none 0 0)).setCell ⟨g, l * 2 + 1, none⟩ (.slice none 0 0)).setCell ⟨X, 5, none⟩ (.slice (some ⟨g, 0, none⟩) l cap)).alloc (.cells #[.slice sa sb sc, .slice ta tb tc] 163)) X x0 x1 x2 x3 x4 (.slice (some ⟨g, 0, none⟩) l cap) (rs.take l) tm := by
    have htl : (rs.take l).length = l := by rw [List.length_take]; omega
    refine ⟨hX3, ?_, fun b hb => Nat.lt_of_lt_of_le (h.fl b hb) hch.size, h.nX, fun z hz => h.nR z (by simpa [Value.ownBlock] using hz), ?_, fun r hr => h.sv r (List.mem_of_mem_take hr)⟩
    · have r1 := row_set (u := .slice none 0 0) (k := l * 2 + 1) (row_set (u := .slice none 0 0) (k := l * 2) h.row (by omega)) (by rw [List.length_set]; omega)
      have r2 := row_cut (m := l) r1 (by omega)
      rw [List.take_set_of_le (by omega), List.take_set_of_le (by omega), flat_take2 (fun _ => rfl)] at r2
      rw [htl]
      exact World.ownsRow.alloc (row_of_blk r2 fun z hz => Below.heap_setCell _ _ _ _ (fun e => by simp [Value.ownBlock] at hz; simp at e; omega)) _
    · exact HeapX.first_to (fun r hr => h.first r (List.mem_of_mem_take hr)) hch (fun b hb => by rcases hb with rfl | rfl; exact h.nX; exact h.nR _ rfl)
  have hli : (rs.length : Int) - 1 = (l : Int) := by omega
  have hl0 : (0 : Int) ≤ (l : Int) := by omega
  have hl1 : (l : Int) < (rs.length : Int) := by omega
  have hl2 : (l : Int) ≤ (cap : Int) := by omega
  rw [show rs.length - 1 = l by omega]
  clear h hsv hfl hcap
  generalize rs.take l = rl at *
  go_enter Tryz.func282, Tryz.ntmps282
  go_wp2
  go_ret
  exact ⟨⟨_, rfl⟩, hE, hch⟩
end Go.Proofs.YtddbjcfdmdbmkaaGreatDoor

namespace Go.Proofs.YtddbjcfdmdbmkaaGreatDoor
open Go.RowKit

section
variable {α : Type} [Inhabited α] (key : α → Int)
theorem keyAt_take (l : List α) (n i : Nat) (h : i < n) : keyAt key (l.take n) i = keyAt key l i := by
  unfold keyAt
  simp [List.getD_eq_getElem?_getD, List.getElem?_take, h]
theorem heap_take {l : List α} {n : Nat} (hn : n ≤ l.length) (h : HeapFrom key l n 0) : HeapFrom key (l.take n) (l.take n).length 0 := by
  have e : (l.take n).length = n := by rw [List.length_take]; omega
  rw [e]
  intro c hc0 hcn hp
  rw [keyAt_take key l n _ (by omega), keyAt_take key l n _ hcn]
  exact h c hc0 hcn hp
def popP (l : List α) : List α := (downP key (l.length - 1) (swapL l 0 (l.length - 1)) 0 (l.length - 1)).take (l.length - 1)
theorem popP_heap {l : List α} (h0 : 0 < l.length) (h : HeapFrom key l l.length 0) : HeapFrom key (popP key l) (popP key l).length 0 := by
  unfold popP
  obtain ⟨n, hn⟩ : ∃ n, l.length = n + 1 := ⟨l.length - 1, by omega⟩
  rw [hn, Nat.add_sub_cancel]
  have hd := downP_len key n (swapL l 0 n) 0 n (by rw [swapL_len]; omega)
  refine heap_take key (by rw [hd, swapL_len]; omega) (downP_heap key n (swapL l 0 n) 0 n 0 (by rw [swapL_len]; omega) (Nat.le_refl _) (by omega) ⟨fun c hc0 hcn hp hp0 => ?_, fun c _ _ _ h _ => by omega⟩)
  rw [key_swap key l 0 n _ (by omega) (by omega), key_swap key l 0 n c (by omega) (by omega), if_neg (by omega), if_neg hp0, if_neg (by omega), if_neg (by omega)]
  exact h c hc0 (by omega) hp
theorem popP_perm {l : List α} (h0 : 0 < l.length) : l.Perm (l.getD 0 default :: popP key l) := by
  unfold popP
  obtain ⟨n, hn⟩ : ∃ n, l.length = n + 1 := ⟨l.length - 1, by omega⟩
  rw [hn, Nat.add_sub_cancel]
  have hs : n ≤ (swapL l 0 n).length := by rw [swapL_len]; omega
  have hd := downP_len key n (swapL l 0 n) 0 n hs
  have hp := (downP_perm key n (swapL l 0 n) 0 n hs).trans (swapL_perm l 0 n (by omega) (by omega))
  have hf := downP_far key n (swapL l 0 n) 0 n n hs (Nat.le_refl _)
  rw [swapL_getD l 0 n n (by omega) (by omega), if_pos rfl] at hf
  rw [swapL_len, hn] at hd
  generalize downP key n (swapL l 0 n) 0 n = d at *
  have e : d = d.take n ++ [l.getD 0 default] := by
    conv => lhs; rw [← List.take_append_drop n d]
    congr 1
    have : d.drop n = [d.getD n default] := by
      rw [List.drop_eq_getElem_cons (by omega), List.drop_of_length_le (by omega)]
      simp [List.getD, show n < d.length by omega]
    rw [this, hf]
  refine hp.symm.trans ?_
  conv => lhs; rw [e]
  exact List.perm_append_comm
theorem pushP_heap {l : List α} {x : α} (h : HeapFrom key l l.length 0) : HeapFrom key (upP key (l.length + 1) (l ++ [x]) l.length) (l.length + 1) 0 := by
  have hk : ∀ i, i < l.length → keyAt key (l ++ [x]) i = keyAt key l i := fun i hi => by
    unfold keyAt
    simp [List.getD_eq_getElem?_getD, List.getElem?_append_left hi]
  refine upP_heap key (l.length + 1) (l ++ [x]) l.length (l.length + 1) (by simp) (by omega) (by omega) ⟨fun c hc0 hcn hc => ?_, fun c hc0 hcn hp h0 => by omega⟩
  rw [hk _ (by omega), hk c (by omega)]
  exact h c hc0 (by omega) (Nat.zero_le _)
theorem init_heap (l : List α) : HeapFrom key (initP key l.length (l.length / 2) l) l.length 0 :=
  initP_heap key l.length (l.length / 2) l (Nat.le_refl _) (fun c hc0 hcn hp => by omega)
end

theorem Tryz.infoRun : (Tryz.prog.info? 163).map (fun i => (i.zero, i.size, i.bytes)) = some (some (.agg #[.slice none 0 0, .slice none 0 0]), 2, 48) := by kernel_rfl
theorem runs_assert (a b : Value) (w : World) : (Instr.typeAssert (.iface 163 (.agg #[a, b])) 20 163 false).run Tryz.prog w = .ok (.agg #[a, b]) w := by kernel_rfl
attribute [local go_sem] runs_assert
def FirstAt (F : Nat → Prop) (w : World) (tm : MRun → Int) (r : MRun) : Prop := ∃ t p, r.ta = some ⟨t, 0, none⟩ ∧ 0 < r.ps.length ∧ w.cell? ⟨t, 0, none⟩ = some (.pointer (some ⟨p, 0, none⟩)) ∧ w.cell? ⟨p, 0, none⟩ = some (.int .i64 (tm r)) ∧ t < w.heap.size ∧ p < w.heap.size ∧ F t ∧ F p
set_option maxRecDepth 100000 in
set_option maxHeartbeats 3200000 in
theorem runsPush_p {F : Nat → Prop} {w : World} {X : Nat} {x0 x1 x2 x3 x4 rv : Value} {rs : List MRun} {tm : MRun → Int} (h : HeapX F w X x0 x1 x2 x3 x4 rv rs tm) (hl : rs.length ≤ 1000000) (r : MRun) (hr : FirstAt F w tm r) (hsv : ∃ a b c, r.sv = .slice a b c) :
    Calls Tryz.prog 283 #[.pointer (some ⟨X, 5, none⟩), .iface 163 r.val] w fun e w' => e = .returned (.tuple #[]) ∧ ∃ g cap, HeapX F w' X x0 x1 x2 x3 x4 (.slice (some ⟨g, 0, none⟩) (rs.length + 1) cap) (rs ++ [r]) tm ∧ Chg (fun b => b = X ∨ rv.ownBlock = some b) w w' ∧ (rv.ownBlock = some g ∨ w.heap.size ≤ g) := by
  obtain ⟨i0, hi0, hz0, hz1, hz2⟩ := info_parts Tryz.infoRun
  obtain ⟨ra, rb, rc, erv⟩ := row_form h.row
  have hX := h.xb
  have hrow := h.row
  have hap := fun z (hz : rv.ownBlock = some z) => h.ne z hz
  obtain ⟨sa, sb, sc, esv⟩ := hsv
  have hrun : r.val = .agg #[.slice sa sb sc, .slice r.ta r.ps.length r.tc] := by unfold MRun.val; rw [esv]
  have hrc : MRun.cells r = [.slice sa sb sc, .slice r.ta r.ps.length r.tc] := by unfold MRun.cells; rw [esv]
  rw [hrun]
  have key : ∀ (g7 cap7 : Nat) (w7 : World) (o : Obj), w7.ownsRow 0 163 2 (.slice (some ⟨g7, 0, none⟩) (rs.length + 1) cap7) (rs.length + 1) (flat MRun.cells rs ++ [.slice sa sb sc, .slice r.ta r.ps.length r.tc]) → (w.alloc o).grownBy w7 rv.ownBlock → (rv.ownBlock = some g7 ∨ w.heap.size ≤ g7) → Blk w7 X #[x0, x1, x2, x3, x4, rv] 110 →
      HeapX F (w7.setCell ⟨X, 5, none⟩ (.slice (some ⟨g7, 0, none⟩) (rs.length + 1) cap7)) X x0 x1 x2 x3 x4 (.slice (some ⟨g7, 0, none⟩) (rs.length + 1) cap7) (rs ++ [r]) tm ∧ Chg (fun b => b = X ∨ rv.ownBlock = some b) w (w7.setCell ⟨X, 5, none⟩ (.slice (some ⟨g7, 0, none⟩) (rs.length + 1) cap7)) := by
    intro g7 cap7 w7 o hown hgrow hg7 hX7
    have hch : Chg (fun b => b = X ∨ rv.ownBlock = some b) w (w7.setCell ⟨X, 5, none⟩ (.slice (some ⟨g7, 0, none⟩) (rs.length + 1) cap7)) :=
      (((Chg.refl (fun b => b = X ∨ rv.ownBlock = some b) w).alloc o).trans (Chg.grown hgrow) (fun b _ hb => .inr hb)).setCell (p := ⟨X, 5, none⟩) (.inl (.inl rfl)) _
    refine ⟨⟨by simpa using hX7.set 5 (.slice (some ⟨g7, 0, none⟩) (rs.length + 1) cap7), ?_, fun b hb => Nat.lt_of_lt_of_le (h.fl b hb) hch.size, h.nX, fun z hz => ?_, ?_, fun q hq => ?_⟩, hch⟩
    · rw [List.length_append, flat_snoc, hrc]
      exact row_of_blk hown fun z hz => Below.heap_setCell _ _ _ _ (fun e => by simp at e; subst e; exact blk_apart hX7 hown (by decide) hz)
    · simp [Value.ownBlock] at hz
      subst hz
      rcases hg7 with e | e
      · exact h.nR _ e
      · exact fun hF => absurd (h.fl _ hF) (by omega)
    · refine HeapX.first_to (w := w) (fun q hq => ?_) hch (fun b hb => by rcases hb with rfl | hb; exact h.nX; exact h.nR _ hb)
      rcases List.mem_append.1 hq with hq | hq
      · exact h.first q hq
      · rw [List.mem_singleton.1 hq]; exact hr
    · rcases List.mem_append.1 hq with hq | hq
      · exact h.sv q hq
      · rw [List.mem_singleton.1 hq]; exact ⟨_, _, _, esv⟩
  generalize r.ta = ta at *
  generalize r.ps.length = tb at *
  generalize r.tc = tc at *
  subst erv
  have c5 := hX.cell 5; have f5 := hX.frozen 5; have hXl := hX.lt
  simp at c5
  clear h hr hrun hrc
  go_enter Tryz.func283, Tryz.ntmps283
  go_upto_region 0 with fail
  go_region_law (first
    | (refine step_append_lies _ (by rfl) _ _ 108 (by rfl) 0 163 i0 _ 2 48 Tryz.underlying108 hi0 hz0 hz1 hz2 rfl (by decide) _ rs.length (flat MRun.cells rs) (by rfl) (hrow.alloc _) ⟨w.heap.size, 0, none⟩ 1 1 [.slice sa sb sc, .slice ta tb tc] (by rfl) rfl (World.news_of_block (alloc_at _ _ _ (by simp))) (by simp [Value.oneCell']) (by decide) (by unfold maxLen; omega) (by omega) (by simp <;> omega) (w.heap.size + 1) (by simp) ?_; intro g7 cap7 w7 hown7 hgrow7 hat7 hlt7; have hX7 := (hX.alloc (.cells #[.slice sa sb sc, .slice ta tb tc] 163)).of_eq (hgrow7.block X (by simp; omega) (fun e => hap X e.symm rfl)); have u5 := hX7.cell 5; have uf := hX7.frozen 5; have hXl7 := hX7.lt; simp at u5))
  all_goals
    have hend := key g7 cap7 w7 (.cells #[.slice sa sb sc, .slice ta tb tc] 163) hown7 ⟨hgrow7.os, hgrow7.tape, hgrow7.output, hgrow7.size, hgrow7.block⟩ (by rcases hat7 with e | e; exact .inl e; exact .inr (by omega)) hX7
    clear hown7 hgrow7
    go_wp2
    go_end0
    exact ⟨rfl, g7, cap7, hend.1, hend.2, by rcases hat7 with e | e; exact .inl e; exact .inr (by omega)⟩
end Go.Proofs.YtddbjcfdmdbmkaaGreatDoor

namespace Go.Proofs.YtddbjcfdmdbmkaaGreatDoor
open Go.RowKit

structure HeapY (F : Nat → Prop) (w : World) (X : Nat) (x0 x1 x2 x3 x4 rv : Value) (rs : List MRun) (tm : MRun → Int) : Prop extends HeapX F w X x0 x1 x2 x3 x4 rv rs tm where
  heap : HeapFrom tm rs rs.length 0
theorem HeapX.row_slice {F : Nat → Prop} {w : World} {X : Nat} {x0 x1 x2 x3 x4 rv : Value} {rs : List MRun} {tm : MRun → Int} (h : HeapX F w X x0 x1 x2 x3 x4 rv rs tm) (h0 : 0 < rs.length) : ∃ g cap, rv = .slice (some ⟨g, 0, none⟩) rs.length cap := by
  rcases h.open with ⟨_, e⟩ | ⟨g, cap, e, _⟩
  · rw [e] at h0; simp at h0
  · exact ⟨g, cap, e⟩
set_option maxRecDepth 100000 in
set_option maxHeartbeats 1600000 in
theorem heapInit_nil {X : Nat} {w : World} (hc : w.cell? ⟨X, 5, none⟩ = some (.slice none 0 0)) :
    Calls Tryz.prog 77 #[.iface 167 (.pointer (some ⟨X, 5, none⟩))] w fun e w' => e = .returned (.tuple #[]) ∧ w' = w := by
  have hml := meth_len hc
  have hLen := fun w => runsLen_p (p := none) (n := 0) (c := 0) w
  go_enter Tryz.func77, Tryz.ntmps77
  go_wp2_with (go_at_call 277; refine (hLen _).mono ?_; rintro e w2 ⟨rfl, he2⟩; rw [he2])
  go_loopw [3] (fun i wr => i = .int .i64 (-1) ∧ wr = w) (fun _ _ => 0)
  case atStart => exact ⟨rfl, rfl⟩
  case round =>
    obtain ⟨rfl, rfl⟩ := hrel
    go_wp2
    go_end0
    exact ⟨rfl, rfl⟩
theorem heapInit_x {F : Nat → Prop} {w : World} {X : Nat} {x0 x1 x2 x3 x4 rv : Value} {rs : List MRun} {tm : MRun → Int} (h : HeapX F w X x0 x1 x2 x3 x4 rv rs tm) (hl : rs.length ≤ 1000000) :
    Calls Tryz.prog 77 #[.iface 167 (.pointer (some ⟨X, 5, none⟩))] w fun e w' => e = .returned (.tuple #[]) ∧ ∃ rs', HeapY F w' X x0 x1 x2 x3 x4 rv rs' tm ∧ rs'.Perm rs ∧ Chg (fun b => rv.ownBlock = some b) w w' := by
  rcases h.open with ⟨rfl, rfl⟩ | ⟨g, cap, rfl, hM⟩
  · refine (heapInit_nil (X := X) (w := w) (by rw [h.xb.cell 5]; simp)).mono ?_
    rintro e w' ⟨rfl, rfl⟩
    exact ⟨rfl, [], ⟨h, fun c h0 hc => by simp at hc⟩, List.Perm.refl _, Chg.refl _ _⟩
  · refine (init_p hM hl).mono ?_
    rintro e w' ⟨rfl, h1, h2⟩
    have hp := initP_perm tm rs.length (rs.length / 2) rs (Nat.le_refl _)
    have hx := h.turned h1 hp h2
    refine ⟨rfl, _, ⟨hx, ?_⟩, hp, (Chg.grown h2).mono (fun b _ e => by simpa [Value.ownBlock] using e)⟩
    rw [hp.length_eq]
    exact init_heap tm rs
set_option maxRecDepth 100000 in
set_option maxHeartbeats 3200000 in
theorem heapPop_x {F : Nat → Prop} {w : World} {X : Nat} {x0 x1 x2 x3 x4 rv : Value} {rs : List MRun} {tm : MRun → Int} (h : HeapY F w X x0 x1 x2 x3 x4 rv rs tm) (h0 : 0 < rs.length) (hl : rs.length ≤ 1000000) :
    Calls Tryz.prog 107 #[.iface 167 (.pointer (some ⟨X, 5, none⟩))] w fun e w' => (∃ v, e = .returned v) ∧ ∃ rv' rs', HeapY F w' X x0 x1 x2 x3 x4 rv' rs' tm ∧ rs.Perm (rs.getD 0 default :: rs') ∧ Chg (fun b => b = X ∨ rv.ownBlock = some b) w w' ∧ rv'.ownBlock = rv.ownBlock := by
  have hx := h.toHeapX
  have hheap := h.heap
  rcases hx.open with ⟨_, e⟩ | ⟨g, cap, rfl, hM⟩
  · rw [e] at h0; simp at h0
  clear h
  obtain ⟨n, hn⟩ : ∃ n, rs.length = n + 1 := ⟨rs.length - 1, by omega⟩
  have hml := meth_len hM.cell
  have hms := meth_swap hM.cell
  have hLen := fun w => runsLen_p (p := some ⟨g, 0, none⟩) (n := rs.length) (c := cap) w
  have hS := hM.swap 0 n (by omega) (by omega)
  have hD : ∀ W, HeapM W X g cap (swapL rs 0 n) tm → Calls Tryz.prog 116 #[.iface 167 (.pointer (some ⟨X, 5, none⟩)), .int .i64 ((0 : Nat) : Int), .int .i64 n] W fun e w' => (∃ b, e = .returned (.bool b)) ∧ HeapM w' X g cap (downP tm n (swapL rs 0 n) 0 n) tm ∧ W.grownBy w' (some g) := fun W hW => down_p hW 0 n (by rw [swapL_len]; omega) (by rw [swapL_len]; omega) (by omega)
  have hdp : (downP tm n (swapL rs 0 n) 0 n).Perm rs := (downP_perm tm n (swapL rs 0 n) 0 n (by rw [swapL_len]; omega)).trans (swapL_perm rs 0 n (by omega) (by omega))
  have hP : ∀ W W', w.grownBy W (some g) → W.grownBy W' (some g) → HeapM W' X g cap (downP tm n (swapL rs 0 n) 0 n) tm → Calls Tryz.prog 282 #[.pointer (some ⟨X, 5, none⟩)] W' fun e w' => (∃ v, e = .returned v) ∧ ∃ rv' rs', HeapY F w' X x0 x1 x2 x3 x4 rv' rs' tm ∧ rs.Perm (rs.getD 0 default :: rs') ∧ Chg (fun b => b = X ∨ (Value.slice (some ⟨g, 0, none⟩) rs.length cap).ownBlock = some b) w w' ∧ rv'.ownBlock = (Value.slice (some ⟨g, 0, none⟩) rs.length cap).ownBlock := by
    intro W W' hg1 hg2 hM2
    have hg := grown_trans hg1 hg2
    have hx2 := hx.turned hM2 hdp hg
    have hln := hdp.length_eq
    rw [← hln] at hx2
    refine (runsPop_p hx2 (by rw [hln]; omega) (by rw [hln]; exact hl)).mono ?_
    rintro e w' ⟨h1, h2, h3⟩
    have hpp : popP tm rs = (downP tm n (swapL rs 0 n) 0 n).take n := by unfold popP; rw [hn, Nat.add_sub_cancel]
    rw [show (downP tm n (swapL rs 0 n) 0 n).length - 1 = n by omega] at h2
    refine ⟨h1, _, _, ⟨h2, ?_⟩, ?_, ?_, rfl⟩
    · rw [← hpp]; exact popP_heap tm (by omega) hheap
    · rw [← hpp]; exact popP_perm tm (by omega)
    · exact ((Chg.grown hg).mono (M' := fun b => b = X ∨ (Value.slice (some ⟨g, 0, none⟩) rs.length cap).ownBlock = some b) (fun b _ e => .inr (by simpa [Value.ownBlock] using e))).trans h3 (fun b _ e => by rcases e with rfl | rfl; exact .inl rfl; exact .inr rfl)
  have hni : (rs.length : Int) - 1 = (n : Int) := by omega
  clear hdp hx hheap hn
  have hz : ((0 : Nat) : Int) = 0 := rfl
  rw [hz] at hS
  go_enter Tryz.func107, Tryz.ntmps107
  go_wp2_with (first
    | (go_at_call 282; refine (hP _ _ hg3 hg4 hM4).mono ?_; rintro e w5 ⟨⟨v5, rfl⟩, hend⟩)
    | (go_at_call 116; refine (hD _ hM3).mono ?_; rintro e w4 ⟨⟨b4, rfl⟩, hM4, hg4⟩; have hmp4 := meth_pop ⟨X, 5, none⟩ w4)
    | (go_at_call 279; refine hS.mono ?_; rintro e w3 ⟨rfl, hM3, hg3⟩)
    | (go_at_call 277; refine (hLen _).mono ?_; rintro e w2 ⟨rfl, he2⟩; rw [he2]))
  go_ret
  exact ⟨⟨_, rfl⟩, hend⟩
set_option maxRecDepth 100000 in
set_option maxHeartbeats 3200000 in
theorem heapPush_x {F : Nat → Prop} {w : World} {X : Nat} {x0 x1 x2 x3 x4 rv : Value} {rs : List MRun} {tm : MRun → Int} (h : HeapY F w X x0 x1 x2 x3 x4 rv rs tm) (hl : rs.length ≤ 900000) (r : MRun) (hr : FirstAt F w tm r) (hsv : ∃ a b c, r.sv = .slice a b c) :
    Calls Tryz.prog 119 #[.iface 167 (.pointer (some ⟨X, 5, none⟩)), .iface 163 r.val] w fun e w' => e = .returned (.tuple #[]) ∧ ∃ rv' rs', HeapY F w' X x0 x1 x2 x3 x4 rv' rs' tm ∧ rs'.Perm (rs ++ [r]) ∧ Chg (fun b => b = X ∨ rv.ownBlock = some b) w w' ∧ ∀ b, rv'.ownBlock = some b → rv.ownBlock = some b ∨ w.heap.size ≤ b := by
  have hmp := meth_push ⟨X, 5, none⟩ w
  have hPush := runsPush_p h.toHeapX (by omega) r hr hsv
  have hheap := h.heap
  have hUp : ∀ W g cap, HeapX F W X x0 x1 x2 x3 x4 (.slice (some ⟨g, 0, none⟩) (rs.length + 1) cap) (rs ++ [r]) tm → Chg (fun b => b = X ∨ rv.ownBlock = some b) w W → (rv.ownBlock = some g ∨ w.heap.size ≤ g) → Calls Tryz.prog 156 #[.iface 167 (.pointer (some ⟨X, 5, none⟩)), .int .i64 rs.length] W fun e w' => e = .returned (.tuple #[]) ∧ ∃ rv' rs', HeapY F w' X x0 x1 x2 x3 x4 rv' rs' tm ∧ rs'.Perm (rs ++ [r]) ∧ Chg (fun b => b = X ∨ rv.ownBlock = some b) w w' ∧ ∀ b, rv'.ownBlock = some b → rv.ownBlock = some b ∨ w.heap.size ≤ b := by
    intro W g cap hx hc hg
    have hle : (rs ++ [r]).length = rs.length + 1 := by simp
    rw [← hle] at hx
    rcases hx.open with ⟨e, _⟩ | ⟨g', cap', e, hM⟩
    · cases e
    · cases e
      refine (up_p hM rs.length (by omega) (by omega)).mono ?_
      rintro e w' ⟨h1, h2, h3⟩
      have hp := upP_perm tm (rs.length + 1) (rs ++ [r]) rs.length (by omega)
      refine ⟨h1, _, _, ⟨hx.turned h2 hp h3, ?_⟩, hp, hc.trans (Chg.grown h3) (fun b hb e => ?_), fun b hb => ?_⟩
      · rw [hp.length_eq, hle]; exact pushP_heap tm hheap
      · have : g = b := by simpa using e
        subst this
        rcases hg with hg | hg
        · exact .inr hg
        · omega
      · have : g = b := by simpa [Value.ownBlock] using hb
        subst this; exact hg
  unfold MRun.val at hPush ⊢
  obtain ⟨sa, sb, sc, esv⟩ := hsv
  rw [esv] at hPush ⊢
  have hsub : ((rs.length + 1 : Nat) : Int) - 1 = (rs.length : Int) := by omega
  clear h hr
  generalize r.ta = ta at *
  generalize r.ps.length = tb at *
  generalize r.tc = tc at *
  go_enter Tryz.func119, Tryz.ntmps119
  go_wp2_with (first
    | (go_at_call 156; refine (hUp _ _ _ hx2 hc2 hg2).mono ?_; rintro e w4 ⟨rfl, hend⟩)
    | (go_at_call 277; refine (runsLen_p _).mono ?_; rintro e w3 ⟨rfl, rfl⟩)
    | (go_at_call 283; refine hPush.mono ?_; rintro e w2 ⟨rfl, g2, cap2, hx2, hc2, hg2⟩; have c5 := hx2.xb.cell 5; simp at c5; have hml := meth_len c5))
  go_end0
  exact ⟨rfl, hend⟩
end Go.Proofs.YtddbjcfdmdbmkaaGreatDoor
