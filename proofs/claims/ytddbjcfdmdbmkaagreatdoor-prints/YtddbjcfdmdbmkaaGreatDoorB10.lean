import Derived.Test.YtddbjcfdmdbmkaaGreatDoorB03
import Derived.Test.YtddbjcfdmdbmkaaGreatDoorB07
import Derived.Deep.Cut
set_option linter.unusedVariables false
set_option linter.unusedSimpArgs false
/-
  size.
-/
namespace Go.Proofs.YtddbjcfdmdbmkaaGreatDoor
open Go.RowKit

def wayStep (f : List Nat → Nat × Nat) (q : Nat × Nat) (way : List Nat) : Nat × Nat := (q.1 + (f way).1, if q.2 < (f way).2 then (f way).2 else q.2)
def partStep (parts : List RPart) (f : List Nat → Nat × Nat) (acc : Nat × Nat) (j : Nat) : Nat × Nat :=
  match parts[j]? with
  | none => acc
  | some x =>
    if x.ways.length = 0 then (acc.1, if x.guard then acc.2 else acc.2 + x.times.toNat)
    else (if 99 < acc.1 * (x.ways.foldl (wayStep f) (0, 0)).1 then 99 else acc.1 * (x.ways.foldl (wayStep f) (0, 0)).1, if 99 < acc.2 + (x.ways.foldl (wayStep f) (0, 0)).2 then 99 else acc.2 + (x.ways.foldl (wayStep f) (0, 0)).2)
/-- What size tells, by the row of parts; n: more than the numbers of all parts that are met. -/
def sizeF (parts : List RPart) : Nat → List Nat → Nat × Nat
  | 0, _ => (1, 0)
  | n + 1, l => l.foldl (partStep parts (sizeF parts n)) (1, 0)

/-- Ways lead to parts ahead alone; times are few. -/
structure PWF (parts : List RPart) : Prop where
  lt : ∀ (i : Nat) (x : RPart), parts[i]? = some x → ∀ l ∈ x.ways, ∀ j ∈ l, j < i
  times : ∀ x ∈ parts, 0 ≤ x.times ∧ x.times ≤ 4
  wlen : ∀ x ∈ parts, x.ways.length ≤ 1000 ∧ ∀ l ∈ x.ways, l.length ≤ 1000
  len : parts.length ≤ 1000

theorem St.part_at {own : Nat → Nat} {w : World} {b : Nat} {m : PM} {σ : PSt} (h : St own w b m σ) {i : Nat} {x : RPart} (hx : σ.parts[i]? = some x) :
    ∃ g cap wv, m.pv = .slice (some ⟨g, 0, none⟩) σ.parts.length cap ∧ i < σ.parts.length ∧ Wayz own w wv x.ways ∧
      w.cell? ⟨g, i * 7, none⟩ = some (.int .i64 x.pos) ∧ w.cell? ⟨g, i * 7 + 1, none⟩ = some (.bool x.guard) ∧ w.cell? ⟨g, i * 7 + 2, none⟩ = some (.string x.name) ∧ w.cell? ⟨g, i * 7 + 3, none⟩ = some (.int .i64 x.kind) ∧
      w.cell? ⟨g, i * 7 + 4, none⟩ = some (.int .i64 x.times) ∧ w.cell? ⟨g, i * 7 + 5, none⟩ = some (.int .i64 x.cond) ∧ w.cell? ⟨g, i * 7 + 6, none⟩ = some wv := by
  obtain ⟨hi, he⟩ := List.getElem?_eq_some_iff.1 hx
  obtain ⟨g, cap, hv, _, _⟩ := h.parts.form (by omega)
  have hw : i < m.wvs.length := by rw [h.wlen]; exact hi
  have hz : i < (σ.parts.zip m.wvs).length := by simp; omega
  have hze : (σ.parts.zip m.wvs)[i] = (x, m.wvs[i]) := by simp [he]
  have key : ∀ j, j < 7 → ∀ u, (RPart.cells (x, m.wvs[i]))[j]? = some u → w.cell? ⟨g, i * 7 + j, none⟩ = some u := by
    intro j hj u hu
    have := h.parts.cells (g := g) (by rw [hv]; rfl) (i * 7 + j) u (by rw [flat_get RPart.cells 7 (fun _ => rfl) _ _ _ hz hj, hze]; exact hu)
    have hadd : (⟨g, 0, none⟩ : Addr).add (i * 7 + j) = ⟨g, i * 7 + j, none⟩ := by unfold Addr.add; split <;> simp_all
    rw [hadd] at this; exact this
  have hway := h.ways (x, m.wvs[i]) (by rw [← hze]; exact List.getElem_mem _)
  exact ⟨g, cap, m.wvs[i], hv, hi, hway, key 0 (by decide) _ rfl, key 1 (by decide) _ rfl, key 2 (by decide) _ rfl, key 3 (by decide) _ rfl, key 4 (by decide) _ rfl, key 5 (by decide) _ rfl, key 6 (by decide) _ rfl⟩

/-- A list of numbers: where they lie. -/
theorem Ints.at {own : Nat → Nat} {w : World} {v : Value} {l : List Nat} (h : Ints own w v l) : ∃ a n c, v = .slice a n c ∧ n = l.length ∧ (0 < n → ∃ g, a = some ⟨g, 0, none⟩ ∧ ∀ k, (hk : k < l.length) → w.cell? ⟨g, k, none⟩ = some (.int .i64 (l[k] : Nat))) := by
  obtain ⟨⟨n, h⟩, _⟩ := h
  have hn : n = l.length := by have := h.1; simp at this; exact this.symm
  subst hn
  have hc := fun (g : Nat) (e : v.ownBlock = some g) => h.cells (g := g) e
  rcases h.2 with ⟨rfl, h0⟩ | ⟨g, c, cur, rfl, _⟩
  · exact ⟨none, 0, 0, rfl, h0.symm, fun hh => absurd hh (by decide)⟩
  · refine ⟨_, _, _, rfl, rfl, fun _ => ⟨g, rfl, fun k hk => ?_⟩⟩
    have := hc g rfl k (.int .i64 (l[k] : Nat)) (by simp [hk])
    have hadd : (⟨g, 0, none⟩ : Addr).add k = ⟨g, k, none⟩ := by unfold Addr.add; split <;> simp_all
    rw [hadd] at this; exact this
theorem Wayz.at {own : Nat → Nat} {w : World} {v : Value} {l : List (List Nat)} (h : Wayz own w v l) : ∃ a n c, v = .slice a n c ∧ n = l.length ∧ (0 < n → ∃ g, a = some ⟨g, 0, none⟩ ∧ ∀ k, (hk : k < l.length) → ∃ u, w.cell? ⟨g, k, none⟩ = some u ∧ Ints own w u l[k]) := by
  obtain ⟨vs, h, ho, hl, hi⟩ := h
  have hc := fun (g : Nat) (e : v.ownBlock = some g) => h.cells (g := g) e
  rcases h.2 with ⟨rfl, h0⟩ | ⟨g, c, cur, rfl, _⟩
  · exact ⟨none, 0, 0, rfl, h0.symm, fun hh => absurd hh (by decide)⟩
  · refine ⟨_, _, _, rfl, rfl, fun _ => ⟨g, rfl, fun k hk => ⟨vs[k]'(by omega), ?_, hi k (by omega) hk⟩⟩⟩
    have := hc g rfl k (vs[k]'(by omega)) (by simp)
    have hadd : (⟨g, 0, none⟩ : Addr).add k = ⟨g, k, none⟩ := by unfold Addr.add; split <;> simp_all
    rw [hadd] at this; exact this

theorem foldl_take_succ {α β : Type} (f : β → α → β) (b : β) (l : List α) (k : Nat) (h : k < l.length) : (l.take (k + 1)).foldl f b = f ((l.take k).foldl f b) l[k] := by
  rw [List.take_succ_eq_append_getElem h, List.foldl_append]; rfl

theorem size_bound (parts : List RPart) (hp : PWF parts) (f : List Nat → Nat × Nat) (l : List Nat) (k : Nat) (hk : k ≤ l.length) : ((l.take k).foldl (partStep parts f) (1, 0)).1 ≤ 99 ∧ ((l.take k).foldl (partStep parts f) (1, 0)).2 ≤ 99 + 4 * k := by
  induction k with
  | zero => simp
  | succ k ih =>
    rw [foldl_take_succ _ _ _ _ (by omega)]
    have h := ih (by omega)
    generalize (l.take k).foldl (partStep parts f) (1, 0) = acc at *
    unfold partStep
    cases hx : parts[l[k]]? with
    | none => simp; omega
    | some x =>
      have ht := hp.times x (List.mem_of_getElem? hx)
      simp only
      split
      · simp only; split <;> omega
      · refine ⟨?_, ?_⟩ <;> simp only <;> split <;> omega
theorem sizeF_bound (parts : List RPart) (hp : PWF parts) (n : Nat) (l : List Nat) (hl : l.length ≤ 1000) : (sizeF parts n l).1 ≤ 99 ∧ (sizeF parts n l).2 ≤ 5000 := by
  cases n with
  | zero => simp [sizeF]
  | succ n =>
    have := size_bound parts hp (sizeF parts n) l l.length (Nat.le_refl _)
    rw [List.take_length] at this
    simp only [sizeF]; omega
theorem way_bound (f : List Nat → Nat × Nat) (ways : List (List Nat)) (hf : ∀ l ∈ ways, (f l).1 ≤ 99 ∧ (f l).2 ≤ 5000) (k : Nat) (hk : k ≤ ways.length) : ((ways.take k).foldl (wayStep f) (0, 0)).1 ≤ 99 * k ∧ ((ways.take k).foldl (wayStep f) (0, 0)).2 ≤ 5000 := by
  induction k with
  | zero => simp
  | succ k ih =>
    rw [foldl_take_succ _ _ _ _ (by omega)]
    have h := ih (by omega)
    have h2 := hf ways[k] (List.getElem_mem _)
    generalize (ways.take k).foldl (wayStep f) (0, 0) = acc at *
    unfold wayStep
    simp only
    refine ⟨by omega, ?_⟩
    split <;> omega

def SizeCd (parts : List RPart) (n : Nat) (σ : PSt) : Prop := ∀ (l : List Nat), (∀ j ∈ l, j < n) → l.length ≤ 1000 → ∀ (own : Nat → Nat) (w : World) (b : Nat) (m : PM) (lv : Value), St own w b m σ → Ints own w lv l →
  Calls Tryz.prog 58 #[.pointer (some ⟨b, 0, none⟩), lv] w fun e w' => e = .returned (.tuple #[.int .i64 (sizeF parts n l).1, .int .i64 (sizeF parts n l).2]) ∧ AfterM own w b m σ w'

theorem Ints.cellAt {own : Nat → Nat} {w : World} {g n c : Nat} {l : List Nat} (h : Ints own w (.slice (some ⟨g, 0, none⟩) n c) l) (k : Nat) (hk : k < l.length) : w.cell? ⟨g, k, none⟩ = some (.int .i64 (l[k] : Nat)) := by
  obtain ⟨⟨m, h⟩, _⟩ := h
  have := h.cells (g := g) rfl k (.int .i64 (l[k] : Nat)) (by simp [hk])
  have hadd : (⟨g, 0, none⟩ : Addr).add k = ⟨g, k, none⟩ := by unfold Addr.add; split <;> simp_all
  rw [hadd] at this; exact this
theorem partStep_leaf {parts : List RPart} {f : List Nat → Nat × Nat} {acc : Nat × Nat} {j : Nat} {x : RPart} (hx : parts[j]? = some x) (hw : x.ways.length = 0) : partStep parts f acc j = (acc.1, if x.guard then acc.2 else acc.2 + x.times.toNat) := by
  simp [partStep, hx, hw]
theorem partStep_alt {parts : List RPart} {f : List Nat → Nat × Nat} {acc : Nat × Nat} {j : Nat} {x : RPart} (hx : parts[j]? = some x) (hw : ¬ x.ways.length = 0) : partStep parts f acc j =
    (if 99 < acc.1 * (x.ways.foldl (wayStep f) (0, 0)).1 then 99 else acc.1 * (x.ways.foldl (wayStep f) (0, 0)).1, if 99 < acc.2 + (x.ways.foldl (wayStep f) (0, 0)).2 then 99 else acc.2 + (x.ways.foldl (wayStep f) (0, 0)).2) := by
  simp only [partStep, hx, if_neg hw]
/-- what holds in size's loops -/
def SzI (own : Nat → Nat) (w : World) (b : Nat) (m : PM) (σ : PSt) (lv : Value) (l : List Nat) (wr : World) : Prop := ∃ own', St own' wr b m σ ∧ Ext own w own' wr ∧ Ints own' wr lv l
def PC (x : RPart) (wv : Value) : Array Value := #[.int .i64 x.pos, .bool x.guard, .string x.name, .int .i64 x.kind, .int .i64 x.times, .int .i64 x.cond, wv]

theorem ret_twoD {a b c d : Int} (h1 : a = c) (h2 : b = d) : Ending.returned (.tuple #[.int .i64 a, .int .i64 b]) = .returned (.tuple #[.int .i64 c, .int .i64 d]) := by rw [h1, h2]
theorem h_owner_alloc {own : Nat → Nat} {w : World} {b : Nat} {m : PM} {σ : PSt} (h : St own w b m σ) (o : Obj) : St (put own w.heap.size 7) (w.alloc o).drew b m σ := ((loc_st h w.heap.size (Nat.le_refl _)).alloc o).drew
theorem Wayz.ext' {own own' : Nat → Nat} {w w' : World} {v : Value} {l : List (List Nat)} (h : Wayz own w v l) (hE : Ext own w own' w') : Wayz own' w' v l := by
  obtain ⟨vs, h, ho, hl, hi⟩ := h
  exact ⟨vs, row_ext h (fun g hg => by rw [ho g hg]; exact Nat.le_refl _) hE, fun g hg => (hE.same g (h.lt g hg).2).trans (ho g hg), hl, fun i h1 h2 => (hi i h1 h2).ext hE⟩
theorem Ints.form' {own : Nat → Nat} {w : World} {v : Value} {l : List Nat} (h : Ints own w v l) : ∃ a n c, v = .slice a n c := by
  obtain ⟨a, n, c, h, _⟩ := h.at
  exact ⟨a, n, c, h⟩
/-- what holds in its inner loop -/
def SzJ (own : Nat → Nat) (w : World) (b : Nat) (m : PM) (σ : PSt) (lv : Value) (l : List Nat) (L : Nat) (x : RPart) (wv : Value) (wr : World) : Prop :=
  ∃ own', St own' wr b m σ ∧ Ext own w own' wr ∧ Ints own' wr lv l ∧ Wayz own' wr wv x.ways ∧ Blk wr L (PC x wv) 202 ∧ own' L = 7

set_option maxRecDepth 100000 in
set_option maxHeartbeats 3200000 in
theorem size_step {σ : PSt} (hp : PWF σ.parts) (n : Nat) (ih : SizeCd σ.parts n σ) (hn : n + 1 ≤ σ.parts.length) : SizeCd σ.parts (n + 1) σ := by
  intro l hl hlen own w b m lv h hI
  obtain ⟨a, ln, c, rfl, hln, hlg⟩ := hI.at
  subst hln
  have hS0 : SzI own w b m σ (.slice a l.length c) l w := ⟨own, h, Ext.refl _ _, hI⟩
  have hlg' : 0 < l.length → ∃ g, a = some ⟨g, 0, none⟩ := fun hh => by obtain ⟨g, e, _⟩ := hlg hh; exact ⟨g, e⟩
  clear h hI hlg
  go_enter Tryz.func58, Tryz.ntmps58
  go_wp2_with fail
  go_loopw [6, 7, 8] (fun p s i wr => ∃ k : Nat, k ≤ l.length ∧ i = .int .i64 k ∧ p = .int .i64 ((l.take k).foldl (partStep σ.parts (sizeF σ.parts n)) (1, 0)).1 ∧ s = .int .i64 ((l.take k).foldl (partStep σ.parts (sizeF σ.parts n)) (1, 0)).2 ∧ SzI own w b m σ (.slice a l.length c) l wr) (fun _ _ i _ => l.length - (intOf i).toNat)
  case atStart => exact ⟨0, Nat.zero_le _, rfl, rfl, rfl, hS0⟩
  case round =>
    obtain ⟨k, hk, rfl, rfl, rfl, own', hS, hE, hI⟩ := hrel
    clear hS0
    have hbd := size_bound σ.parts hp (sizeF σ.parts n) l k hk
    by_cases hlt : k < l.length
    · obtain ⟨gl, rfl⟩ := hlg' (by omega)
      have hcl := hI.cellAt k hlt
      have hjn : l[k] < n + 1 := hl _ (List.getElem_mem _)
      have HF : Hid ((l.take (k + 1)).foldl (partStep σ.parts (sizeF σ.parts n)) (1, 0) = partStep σ.parts (sizeF σ.parts n) ((l.take k).foldl (partStep σ.parts (sizeF σ.parts n)) (1, 0)) l[k]) := foldl_take_succ _ _ _ _ hlt
      generalize (l.take k).foldl (partStep σ.parts (sizeF σ.parts n)) (1, 0) = acc at *
      obtain ⟨p, s⟩ := acc
      generalize l[k] = j at *
      have hjl : j < σ.parts.length := by omega
      obtain ⟨x, hx⟩ : ∃ x, σ.parts[j]? = some x := ⟨σ.parts[j], by simp [hjl]⟩
      obtain ⟨g, cap, wv, hv, _, hway, c0, c1, c2, c3, c4, c5, c6⟩ := hS.part_at hx
      obtain ⟨wa, wn, wc, rfl, hwn, hwg⟩ := hway.at
      subst hwn
      have d9 := hS.cell 9
      simp [PCells] at d9
      rw [hv] at d9
      have hj0 : (0 : Int) ≤ (j : Int) := by omega
      have hj1 : (j : Int) < (σ.parts.length : Int) := by omega
      have hk0 : (0 : Int) ≤ (k : Int) := by omega
      have hk1 : (k : Int) < (l.length : Int) := by omega
      have hpl := hp.len
      have HX : Hid (σ.parts[j]? = some x) := hx
      have ht := hp.times x (List.mem_of_getElem? hx)
      have hwl := (hp.wlen x (List.mem_of_getElem? hx)).1
      simp only at hbd
      clear hx hv hwg
      go_upto_region 6 with fail
      go_region_held3 (fun w' => w'.cell? ⟨b, 9, none⟩ = some (.slice (some ⟨g, 0, none⟩) σ.parts.length cap) ∧ w'.cell? ⟨gl, k, none⟩ = some (.int .i64 j) ∧ w'.cell? ⟨g, j * 7, none⟩ = some (.int .i64 x.pos) ∧ w'.cell? ⟨g, j * 7 + 1, none⟩ = some (.bool x.guard) ∧ w'.cell? ⟨g, j * 7 + 2, none⟩ = some (.string x.name) ∧ w'.cell? ⟨g, j * 7 + 3, none⟩ = some (.int .i64 x.kind) ∧ w'.cell? ⟨g, j * 7 + 4, none⟩ = some (.int .i64 x.times) ∧ w'.cell? ⟨g, j * 7 + 5, none⟩ = some (.int .i64 x.cond) ∧ w'.cell? ⟨g, j * 7 + 6, none⟩ = some (.slice wa x.ways.length wc)) (go_keep) (fail)
      have hgr : wr.grownBy (wr.alloc (.cells (PC x (.slice wa x.ways.length wc)) 202)).drew none := ⟨rfl, rfl, rfl, by simp, fun i hi _ => Below.heap_alloc _ _ _ hi⟩
      have hEL : Ext own' wr (put own' wr.heap.size 7) (wr.alloc (.cells (PC x (.slice wa x.ways.length wc)) 202)).drew := ((Ext.refl own' wr).allocAs _ 7).drew
      have hSL : St (put own' wr.heap.size 7) (wr.alloc (.cells (PC x (.slice wa x.ways.length wc)) 202)).drew b m σ := (h_owner_alloc hS _)
      have hJ : SzJ own w b m σ (.slice (some ⟨gl, 0, none⟩) l.length c) l wr.heap.size x (.slice wa x.ways.length wc) (wr.alloc (.cells (PC x (.slice wa x.ways.length wc)) 202)).drew :=
        ⟨_, hSL, hE.trans hEL, hI.ext hEL, hway.ext' hEL, (Blk.new wr _ _).drew, put_same _ _ _⟩
      clear hSL hEL hgr hS hE hI hway c0 c1 c2 c3 c4 c5 c6 d9 hcl
      unfold PC at hJ
      generalize (wr.alloc (.cells #[.int .i64 x.pos, .bool x.guard, .string x.name, .int .i64 x.kind, .int .i64 x.times, .int .i64 x.cond, .slice wa x.ways.length wc] 202)).drew = W at *
      generalize wr.heap.size = L at *
      obtain ⟨own1, hS, hE, hI, hway, hB, hoL⟩ := hJ
      have hI2 : SzI own w b m σ (.slice (some ⟨gl, 0, none⟩) l.length c) l W := ⟨own1, hS, hE, hI⟩
      have b6 := hB.cell 6
      have b1 := hB.cell 1
      have b4 := hB.cell 4
      simp [PC] at b6 b1 b4
      by_cases hz : x.ways.length = 0
      · have hz' : ((x.ways.length : Int) == 0) = true := by simp [hz]
        have HFx : Hid ((l.take (k + 1)).foldl (partStep σ.parts (sizeF σ.parts n)) (1, 0) = (p, if x.guard then s else s + x.times.toNat)) := by
          show _ = _; rw [HF.out]; exact partStep_leaf HX.out hz
        have HZ : Hid (x.ways.length = 0) := hz
        clear hz
        cases hgd : x.guard with
        | true =>
          go_wp2_with fail
          go_roundw
          case rel => exact ⟨k + 1, by omega, by go_num, by rw [HFx.out], by rw [HFx.out, hgd]; rfl, hI2⟩
          case measure => simp [intOf]; omega
        | false =>
          have ht1 := ht.1
          have ht2 := ht.2
          go_wp2_with fail
          go_roundw
          case rel => exact ⟨k + 1, by omega, by go_num, by rw [HFx.out], by rw [HFx.out, hgd]; simp; omega, hI2⟩
          case measure => simp [intOf]; omega
      · have hz' : ((x.ways.length : Int) == 0) = false := by rw [beq_eq_false_iff_ne]; omega
        have HFx : Hid ((l.take (k + 1)).foldl (partStep σ.parts (sizeF σ.parts n)) (1, 0) = _) := HF.out.trans (partStep_alt HX.out hz)
        have HZ : Hid (¬ x.ways.length = 0) := hz
        clear hz
        have hwl2 := (hp.wlen x (List.mem_of_getElem? HX.out)).2
        have hfb : ∀ l' ∈ x.ways, (sizeF σ.parts n l').1 ≤ 99 ∧ (sizeF σ.parts n l').2 ≤ 5000 := fun l' hl' => sizeF_bound σ.parts hp n l' (hwl2 l' hl')
        have hlj : ∀ l' ∈ x.ways, ∀ j' ∈ l', j' < n := fun l' h1 j' h2 => by have := hp.lt j x HX.out l' h1 j' h2; omega
        have HX2 : Hid (SizeCd σ.parts n σ) := ih
        clear ih hI2 b1 b4
        go_wp2_with fail
        go_loopw [10, 11, 12] (fun q1 q2 i wr2 => ∃ k2 : Nat, k2 ≤ x.ways.length ∧ i = .int .i64 k2 ∧ q1 = .int .i64 ((x.ways.take k2).foldl (wayStep (sizeF σ.parts n)) (0, 0)).1 ∧ q2 = .int .i64 ((x.ways.take k2).foldl (wayStep (sizeF σ.parts n)) (0, 0)).2 ∧ SzJ own w b m σ (.slice (some ⟨gl, 0, none⟩) l.length c) l L x (.slice wa x.ways.length wc) wr2) (fun _ _ i _ => x.ways.length - (intOf i).toNat)
        case atStart => exact ⟨0, Nat.zero_le _, rfl, rfl, rfl, own1, hS, hE, hI, hway, hB, hoL⟩
        case round =>
          obtain ⟨k2, hk2, rfl, rfl, rfl, own2, hS2, hE2, hI2, hway2, hB2, hoL2⟩ := hrel
          clear hS hE hI hway hB hoL b6
          have hqb := way_bound (sizeF σ.parts n) x.ways hfb k2 hk2
          have b6 := hB2.cell 6
          simp [PC] at b6
          by_cases hl2 : k2 < x.ways.length
          · obtain ⟨a2, n2, c2, e2, hn2, hg2⟩ := hway2.at
            simp only [Value.slice.injEq] at e2
            obtain ⟨rfl, rfl, rfl⟩ := e2
            obtain ⟨gw, rfl, hcw⟩ := hg2 (by omega)
            obtain ⟨u, hcu, hIu⟩ := hcw k2 hl2
            obtain ⟨ua, un, uc, rfl⟩ := hIu.form'
            have HW : Hid ((x.ways.take (k2 + 1)).foldl (wayStep (sizeF σ.parts n)) (0, 0) = wayStep (sizeF σ.parts n) ((x.ways.take k2).foldl (wayStep (sizeF σ.parts n)) (0, 0)) x.ways[k2]) := foldl_take_succ _ _ _ _ hl2
            have hm := List.getElem_mem hl2
            have hsb := hfb _ hm
            have hCall := HX2.out x.ways[k2] (hlj _ hm) (hwl2 _ hm)
            have HC : Hid (∀ (own : Nat → Nat) (w : World) (b : Nat) (m : PM) (lv : Value), St own w b m σ → Ints own w lv x.ways[k2] → Calls Tryz.prog 58 #[.pointer (some ⟨b, 0, none⟩), lv] w fun e w' => e = .returned (.tuple #[.int .i64 (sizeF σ.parts n x.ways[k2]).1, .int .i64 (sizeF σ.parts n x.ways[k2]).2]) ∧ AfterM own w b m σ w') := hCall
            clear hCall hcw hg2
            generalize (x.ways.take k2).foldl (wayStep (sizeF σ.parts n)) (0, 0) = q at *
            obtain ⟨q1, q2⟩ := q
            simp only at hqb
            generalize hsz : sizeF σ.parts n x.ways[k2] = sz at *
            have HSZ : Hid (sizeF σ.parts n x.ways[k2] = sz) := hsz
            clear hsz
            obtain ⟨s1, s2⟩ := sz
            simp only at hsb
            have h20 : (0 : Int) ≤ (k2 : Int) := by omega
            have h21 : (k2 : Int) < (x.ways.length : Int) := by omega
            go_wp2_with fail
            refine (HC.out own2 _ b m _ hS2 hIu).mono ?_
            rintro e w3 ⟨rfl, own3, hS3, hE3⟩
            have hJ3 : SzJ own w b m σ (.slice (some ⟨gl, 0, none⟩) l.length c) l L x (.slice (some ⟨gw, 0, none⟩) x.ways.length wc) w3 :=
              ⟨own3, hS3, hE2.trans hE3, hI2.ext hE3, hway2.ext' hE3, hE3.blk hoL2 hB2, (hE3.same L hB2.lt).trans hoL2⟩
            clear hS2 hE2 hI2 hway2 hB2 hoL2 hS3 hE3 hIu hcu b6
            simp only
            by_cases hlt2 : q2 < s2
            · have hlt2' : (q2 : Int) < (s2 : Int) := by omega
              have HW2 : Hid ((x.ways.take (k2 + 1)).foldl (wayStep (sizeF σ.parts n)) (0, 0) = (q1 + s1, s2)) := by
                show _ = _; rw [HW.out]; unfold wayStep; rw [HSZ.out]; simp [hlt2]
              go_wp2_with fail
              go_roundw
              case rel => exact ⟨k2 + 1, by omega, by go_num, by rw [HW2.out]; go_num, by rw [HW2.out], hJ3⟩
              case measure => simp [intOf]; omega
            · have hlt2' : ¬ (q2 : Int) < (s2 : Int) := by omega
              have HW2 : Hid ((x.ways.take (k2 + 1)).foldl (wayStep (sizeF σ.parts n)) (0, 0) = (q1 + s1, q2)) := by
                show _ = _; rw [HW.out]; unfold wayStep; rw [HSZ.out]; simp [hlt2]
              go_wp2_with fail
              go_roundw
              case rel => exact ⟨k2 + 1, by omega, by go_num, by rw [HW2.out]; go_num, by rw [HW2.out], hJ3⟩
              case measure => simp [intOf]; omega
          · have e : k2 = x.ways.length := by omega
            subst e
            have HT : Hid (x.ways.take x.ways.length = x.ways) := List.take_length
            rw [HT.out] at hqb
            rw [HT.out]
            have HFy : Hid ((l.take (k + 1)).foldl (partStep σ.parts (sizeF σ.parts n)) (1, 0) = (if 99 < p * (x.ways.foldl (wayStep (sizeF σ.parts n)) (0, 0)).1 then 99 else p * (x.ways.foldl (wayStep (sizeF σ.parts n)) (0, 0)).1, if 99 < s + (x.ways.foldl (wayStep (sizeF σ.parts n)) (0, 0)).2 then 99 else s + (x.ways.foldl (wayStep (sizeF σ.parts n)) (0, 0)).2)) := HFx.out
            have hI3 : SzI own w b m σ (.slice (some ⟨gl, 0, none⟩) l.length c) l wr := ⟨own2, hS2, hE2, hI2⟩
            clear HFx hS2 hE2 hI2 hway2 hB2 hoL2
            generalize x.ways.foldl (wayStep (sizeF σ.parts n)) (0, 0) = q at *
            obtain ⟨q1, q2⟩ := q
            simp only at hqb HFy
            have hm1 : p * q1 ≤ 99 * (99 * 1000) := Nat.mul_le_mul hbd.1 (by omega)
            have hpq : (p : Int) * (q1 : Int) = ((p * q1 : Nat) : Int) := by simp
            generalize p * q1 = pq at *
            simp only
            by_cases h1 : 99 < pq
            · have h1' : (99 : Int) < (pq : Int) := by omega
              rw [if_pos h1] at HFy
              by_cases h2 : 99 < s + q2
              · have h2' : (99 : Int) < (s : Int) + (q2 : Int) := by omega
                rw [if_pos h2] at HFy
                go_wp2_with fail
                go_roundw
                case rel => exact ⟨k + 1, by omega, by go_num, by rw [HFy.out]; rfl, by rw [HFy.out]; rfl, hI3⟩
                case measure => simp [intOf]; omega
              · have h2' : ¬ (99 : Int) < (s : Int) + (q2 : Int) := by omega
                rw [if_neg h2] at HFy
                go_wp2_with fail
                go_roundw
                case rel => exact ⟨k + 1, by omega, by go_num, by rw [HFy.out]; rfl, by rw [HFy.out]; go_num, hI3⟩
                case measure => simp [intOf]; omega
            · have h1' : ¬ (99 : Int) < (pq : Int) := by omega
              rw [if_neg h1] at HFy
              by_cases h2 : 99 < s + q2
              · have h2' : (99 : Int) < (s : Int) + (q2 : Int) := by omega
                rw [if_pos h2] at HFy
                go_wp2_with fail
                go_roundw
                case rel => exact ⟨k + 1, by omega, by go_num, by rw [HFy.out], by rw [HFy.out]; rfl, hI3⟩
                case measure => simp [intOf]; omega
              · have h2' : ¬ (99 : Int) < (s : Int) + (q2 : Int) := by omega
                rw [if_neg h2] at HFy
                go_wp2_with fail
                go_roundw
                case rel => exact ⟨k + 1, by omega, by go_num, by rw [HFy.out], by rw [HFy.out]; go_num, hI3⟩
                case measure => simp [intOf]; omega
    · have e : k = l.length := by omega
      subst e
      have HF : Hid (sizeF σ.parts (n + 1) l = (l.take l.length).foldl (partStep σ.parts (sizeF σ.parts n)) (1, 0)) := by show _ = _; rw [List.take_length]; rfl
      have HA : Hid (AfterM own w b m σ wr) := ⟨own', hS, hE⟩
      go_wp2_with fail
      go_ret2
      exact ⟨ret_twoD (by rw [HF.out]) (by rw [HF.out]), HA.out⟩

set_option maxRecDepth 100000 in
set_option maxHeartbeats 800000 in
theorem size_zero {σ : PSt} : SizeCd σ.parts 0 σ := by
  intro l hl hlen own w b m lv h hI
  have e : l = [] := by
    cases l with
    | nil => rfl
    | cons j l => have := hl j (by simp); omega
  subst e
  obtain ⟨a, ln, c, rfl, hln, _⟩ := hI.at
  subst hln
  go_enter Tryz.func58, Tryz.ntmps58
  go_wp2_with fail
  go_loop [6, 7, 8] (fun p s i => p = .int .i64 1 ∧ s = .int .i64 0 ∧ i = .int .i64 0) (fun _ _ _ => 0)
  case atStart => exact ⟨rfl, rfl, rfl⟩
  case round =>
    obtain ⟨rfl, rfl, rfl⟩ := hrel
    go_wp2_with fail
    go_ret2
    exact ⟨rfl, own, h, Ext.refl _ _⟩

theorem size_any {σ : PSt} (hp : PWF σ.parts) (n : Nat) (hn : n ≤ σ.parts.length) : SizeCd σ.parts n σ := by
  induction n with
  | zero => exact size_zero
  | succ n ih => exact size_step hp n (ih (by omega)) hn
end Go.Proofs.YtddbjcfdmdbmkaaGreatDoor
