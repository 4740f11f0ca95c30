import Derived.Test.YtddbjcfdmdbmkaaGreatDoorB37
import Derived.Test.YtddbjcfdmdbmkaaGreatDoorB38
import Derived.Deep.CutRange
set_option linter.unusedVariables false
set_option linter.unusedSimpArgs false
/-
  The document's ways: the walk.
-/
namespace Go.Proofs.YtddbjcfdmdbmkaaGreatDoor
open Go.RowKit

/-- the rows of the first k parts -/
def wacc (parts : List RPart) (n : Nat) (l : List Nat) (k : Nat) : List (List Nat) := (l.take k).foldl (fun out j => eachL out (nextF (waysF parts n) parts j)) [[]]
theorem wacc_succ (parts : List RPart) (n : Nat) (l : List Nat) (k : Nat) (h : k < l.length) : wacc parts n l (k + 1) = eachL (wacc parts n l k) (nextF (waysF parts n) parts l[k]) := by
  unfold wacc; rw [List.take_succ_eq_append_getElem h, List.foldl_append]; rfl
theorem wacc_all (parts : List RPart) (n : Nat) (l : List Nat) : wacc parts n l l.length = waysF parts (n + 1) l := by unfold wacc; rw [List.take_length]; rfl
/-- how much there is at most -/
def WB (parts : List RPart) : Nat → List Nat → Prop
  | 0, l => l = []
  | n + 1, l => l.length ≤ 1000 ∧ (∀ k, k ≤ l.length → (wacc parts n l k).length ≤ 16 ∧ 1 ≤ (wacc parts n l k).length ∧ ∀ r ∈ wacc parts n l k, r.length ≤ 100000 ∧ (0 < k → r ≠ [])) ∧
    ∀ j ∈ l, ∃ x, parts[j]? = some x ∧ x.ways.length ≤ 1000 ∧ (nextF (waysF parts n) parts j).length ≤ 16 ∧ (∀ r ∈ nextF (waysF parts n) parts j, r.length ≤ 100000 ∧ r ≠ []) ∧ ∀ way ∈ x.ways, WB parts n way ∧ 1 ≤ (waysF parts n way).length
def WaysC (n : Nat) (σ : PSt) : Prop := ∀ (l : List Nat), WB σ.parts n l → ∀ (own : Nat → Nat) (w : World) (b : Nat) (m : PM) (lv : Value), St own w b m σ → Ints own w lv l →
  Calls Tryz.prog 59 #[.pointer (some ⟨b, 0, none⟩), lv] w fun e w' => ∃ v own', e = .returned v ∧ St own' w' b m σ ∧ Ext own w own' w' ∧ Wayz own' w' v (waysF σ.parts n l)
/-- empty rows are nil -/
def NilAt (w : World) (v : Value) (rows : List (List Nat)) : Prop := ∀ g n c, v = .slice (some ⟨g, 0, none⟩) n c → ∀ i, (h : i < rows.length) → rows[i] = [] → w.cell? ⟨g, i, none⟩ = some (.slice none 0 0)
def WayN (own : Nat → Nat) (w : World) (v : Value) (rows : List (List Nat)) : Prop := Wayz own w v rows ∧ NilAt w v rows
theorem WayN.k7 {own own' : Nat → Nat} {w w' : World} {v : Value} {l : List (List Nat)} (h : WayN own w v l) (k : K7 own w own' w') : WayN own' w' v l := by
  refine ⟨h.1.k7 k, fun g n c e i hi hr => ?_⟩
  obtain ⟨vs, hrow, ho, _, _⟩ := h.1
  have hg : v.ownBlock = some g := by rw [e]; rfl
  exact (cell_eq (k.2 g (hrow.lt g hg).2 (ho g hg)).2 _).trans (h.2 g n c e i hi hr)
/-- in the outer loop -/
def WO (own : Nat → Nat) (w : World) (b : Nat) (m : PM) (σ : PSt) (lv : Value) (l : List Nat) (v : Value) (rows : List (List Nat)) (wr : World) : Prop := ∃ own', WS own w b m σ own' wr ∧ Ints own' wr lv l ∧ WayN own' wr v rows
/-- in the loop over a part's ways -/
def WN (own : Nat → Nat) (w : World) (b : Nat) (m : PM) (σ : PSt) (lv : Value) (l : List Nat) (v : Value) (rows : List (List Nat)) (L : Nat) (x : RPart) (wv nv : Value) (nrows : List (List Nat)) (wr : World) : Prop :=
  ∃ own', WS own w b m σ own' wr ∧ Ints own' wr lv l ∧ WayN own' wr v rows ∧ Wayz own' wr wv x.ways ∧ Blk wr L (PC x wv) 202 ∧ own' L = 7 ∧ Way9 own' wr nv nrows w.heap.size
/-- in the loops that put rows together -/
def WP (own : Nat → Nat) (w : World) (b : Nat) (m : PM) (σ : PSt) (lv : Value) (l : List Nat) (v : Value) (rows : List (List Nat)) (nv : Value) (nrows : List (List Nat)) (av : Value) (arows : List (List Nat)) (wr : World) : Prop :=
  ∃ own', WS own w b m σ own' wr ∧ Ints own' wr lv l ∧ WayN own' wr v rows ∧ Wayz own' wr nv nrows ∧ Way9 own' wr av arows w.heap.size
theorem one_row (own : Nat → Nat) (w : World) (g : Nat) (v : Value) (r : List Nat) (hb : Blk w g #[v] 48) (hc : own g = 7) (hv : Ints own w v r) : Wayz own w (.slice (some ⟨g, 0, none⟩) 1 1) [r] :=
  ⟨[v], ⟨rfl, .inr ⟨g, 1, #[v], rfl, Nat.zero_le _, hb, Nat.le_refl _, by unfold maxLen; omega, rfl, rfl⟩⟩, fun k e => by cases e; exact hc, rfl, fun i h1 h2 => by
    have : i = 0 := by simp at h1; exact h1
    subst this; exact hv⟩
theorem one_int (own : Nat → Nat) (w : World) (g j : Nat) (hb : Blk w g #[.int .i64 (j : Nat)] 3) (hc : own g = 7) : Ints own w (.slice (some ⟨g, 0, none⟩) 1 1) [j] :=
  ⟨⟨1, rfl, .inr ⟨g, 1, #[.int .i64 (j : Nat)], rfl, Nat.zero_le _, hb, Nat.le_refl _, by unfold maxLen; omega, rfl, rfl⟩⟩, fun k e => by cases e; exact hc⟩
theorem Ints.nil (own : Nat → Nat) (w : World) : Ints own w (.slice none 0 0) [] := ⟨⟨0, World.ownsRow_nil _ _ _ _⟩, fun g hg => by simp [Value.ownBlock] at hg⟩
theorem flatMap_take_succ {α β : Type} (f : α → List β) (l : List α) (k : Nat) (h : k < l.length) : (l.take (k + 1)).flatMap f = (l.take k).flatMap f ++ f l[k] := by
  rw [List.take_succ_eq_append_getElem h, List.flatMap_append]; simp
theorem nextF_leaf {rec : List Nat → List (List Nat)} {parts : List RPart} {j : Nat} {x : RPart} (hx : parts[j]? = some x) (hw : x.ways.length = 0) : nextF rec parts j = [[j]] := by unfold nextF; rw [hx]; simp [hw]
theorem nextF_alt {rec : List Nat → List (List Nat)} {parts : List RPart} {j : Nat} {x : RPart} (hx : parts[j]? = some x) (hw : ¬ x.ways.length = 0) : nextF rec parts j = x.ways.flatMap rec := by unfold nextF; rw [hx]; simp [hw]

set_option maxRecDepth 100000 in
set_option maxHeartbeats 3200000 in
theorem ways_step {σ : PSt} (hlen : σ.parts.length ≤ 1000) (n : Nat) (ih : WaysC n σ) : WaysC (n + 1) σ := by
  intro l hWB own w b m lv h hI
  obtain ⟨hl1000, hacc, hparts⟩ := hWB
  obtain ⟨a, ln, c, rfl, hln, hlg⟩ := hI.at
  subst hln
  have hlg' : 0 < l.length → ∃ g, a = some ⟨g, 0, none⟩ := fun hh => by obtain ⟨g, e, _⟩ := hlg hh; exact ⟨g, e⟩
  clear hlg
  go_enter Tryz.func59, Tryz.ntmps59
  have hO0 : WO own w b m σ (.slice a l.length c) l (.slice (some ⟨w.heap.size, 0, none⟩) 1 1) (wacc σ.parts n l 0) (w.alloc (.cells #[.slice none 0 0] 48)) := by
    have hg := World.grownBy_alloc w (.cells #[.slice none 0 0] 48) none
    obtain ⟨hW, hK⟩ := (WS.mk h (Ext.refl _ _) : WS own w b m σ own w).new hg (Nat.le_refl _) 7
    refine ⟨_, hW, hI.k7 hK, one_row _ _ _ _ _ (Blk.new _ _ _) (put_same _ _ _) (Ints.nil _ _), ?_⟩
    intro g n c e i hi _
    simp only [Value.slice.injEq, Option.some.injEq, Addr.mk.injEq] at e
    obtain ⟨⟨rfl, _⟩, _⟩ := e
    have : i = 0 := by simp [wacc] at hi; exact hi
    subst this
    exact ((Blk.new w #[.slice none 0 0] 48).cell 0).trans rfl
  clear h hI
  go_wp2_with fail
  go_loopw [5, 6] (fun v i wr => ∃ k : Nat, k ≤ l.length ∧ i = .int .i64 k ∧ WO own w b m σ (.slice a l.length c) l v (wacc σ.parts n l k) wr) (fun _ i _ => l.length - (intOf i).toNat)
  case atStart => exact ⟨0, Nat.zero_le _, rfl, hO0⟩
  case round =>
    obtain ⟨k, hk, rfl, own', hW, hI, hOut⟩ := hrel
    clear hO0
    obtain ⟨ha16, ha1, har⟩ := hacc k hk
    obtain ⟨go, co, vso, rfl, hgo, hvl, hvc, hv1, hvi⟩ := hOut.1.at0 (by omega)
    by_cases hlt : k < l.length
    · obtain ⟨gl, rfl⟩ := hlg' (by omega)
      have hcl := hI.cellAt k hlt
      obtain ⟨x, hx, hx1000, hn16, hnr, hrec⟩ := hparts l[k] (List.getElem_mem _)
      have HS : Hid (wacc σ.parts n l (k + 1) = eachL (wacc σ.parts n l k) (nextF (waysF σ.parts n) σ.parts l[k])) := wacc_succ _ _ _ _ hlt
      have HA1 : Hid ((wacc σ.parts n l (k + 1)).length ≤ 16) := (hacc (k + 1) (by omega)).1
      have HNE : Hid (∀ r ∈ wacc σ.parts n l (k + 1), r ≠ []) := fun r hr => ((hacc (k + 1) (by omega)).2.2 r hr).2 (by omega)
      obtain ⟨rows2, HQ⟩ : ∃ rows2, Hid (wacc σ.parts n l (k + 1) = rows2) := ⟨_, rfl⟩
      rw [HQ.out] at HS HA1 HNE
      generalize wacc σ.parts n l k = rows at *
      clear hacc hparts
      generalize l[k] = j at *
      have hjl : j < σ.parts.length := by obtain ⟨hj, _⟩ := List.getElem?_eq_some_iff.1 hx; exact hj
      obtain ⟨g, cap, wv, hv, _, hway, c0, c1, c2, c3, c4, c5, c6⟩ := hW.st.part_at hx
      obtain ⟨wa, wn, wc, rfl, hwn, hwg⟩ := hway.at
      subst hwn
      have d9 := hW.st.cell 9
      simp [PCells] at d9
      rw [hv] at d9
      have hj0 : (0 : Int) ≤ (j : Int) := by omega
      have hj1 : (j : Int) < (σ.parts.length : Int) := by omega
      have hk0 : (0 : Int) ≤ (k : Int) := by omega
      have hk1 : (k : Int) < (l.length : Int) := by omega
      have HX : Hid (σ.parts[j]? = some x) := hx
      clear hx hv hwg
      go_upto_region 5 with fail
      go_region_held3 (fun w' => w'.cell? ⟨b, 9, none⟩ = some (.slice (some ⟨g, 0, none⟩) σ.parts.length cap) ∧ w'.cell? ⟨gl, k, none⟩ = some (.int .i64 j) ∧ w'.cell? ⟨g, j * 7, none⟩ = some (.int .i64 x.pos) ∧ w'.cell? ⟨g, j * 7 + 1, none⟩ = some (.bool x.guard) ∧ w'.cell? ⟨g, j * 7 + 2, none⟩ = some (.string x.name) ∧ w'.cell? ⟨g, j * 7 + 3, none⟩ = some (.int .i64 x.kind) ∧ w'.cell? ⟨g, j * 7 + 4, none⟩ = some (.int .i64 x.times) ∧ w'.cell? ⟨g, j * 7 + 5, none⟩ = some (.int .i64 x.cond) ∧ w'.cell? ⟨g, j * 7 + 6, none⟩ = some (.slice wa x.ways.length wc)) (go_keep) (fail)
      have hgr : wr.grownBy (wr.alloc (.cells (PC x (.slice wa x.ways.length wc)) 202)).drew none := ⟨rfl, rfl, rfl, by simp, fun i hi _ => Below.heap_alloc _ _ _ hi⟩
      obtain ⟨hW1, hK1⟩ := hW.new hgr (Nat.le_refl _) 7
      have hB1 : Blk (wr.alloc (.cells (PC x (.slice wa x.ways.length wc)) 202)).drew wr.heap.size (PC x (.slice wa x.ways.length wc)) 202 := (Blk.new wr _ _).drew
      have hc1 := put_same own' wr.heap.size 7
      have hI1 := hI.k7 hK1
      have hO1 := hOut.k7 hK1
      have hw1 := hway.k7 hK1
      have hcl1 : (wr.alloc (.cells (PC x (.slice wa x.ways.length wc)) 202)).drew.cell? ⟨gl, k, none⟩ = some (.int .i64 j) := hcl ▸ (by
        have := hI1.cellAt k hlt
        have h2 := hI.cellAt k hlt
        rw [this, h2])
      clear hW hI hOut hway hgr hK1 c0 c1 c2 c3 c4 c5 c6 d9 hcl hvc hv1 hvi hvl
      unfold PC at hW1 hB1 hI1 hO1 hw1 hcl1
      generalize (wr.alloc (.cells #[.int .i64 x.pos, .bool x.guard, .string x.name, .int .i64 x.kind, .int .i64 x.times, .int .i64 x.cond, .slice wa x.ways.length wc] 202)).drew = W at *
      generalize wr.heap.size = L at *
      generalize put own' L 7 = own1 at *
      have b6 := hB1.cell 6
      simp at b6
      have hLlt := hB1.lt
      have hL1 : L < W.heap.size + 1 := by omega
      have hL2 : L < W.heap.size + 1 + 1 := by omega
      go_upto_if 41 with fail
      have hg2 : W.grownBy ((W.alloc (.cells #[.int .i64 j] 3)).alloc (.cells #[.slice (some ⟨W.heap.size, 0, none⟩) 1 1] 48)) none := ⟨rfl, rfl, rfl, by simp; omega, fun i hi _ => (Below.heap_alloc _ _ _ (by simp; omega)).trans (Below.heap_alloc _ _ _ hi)⟩
      go_cut [8] from 16 to 87 (fun nv wc => ∃ own2, WS own w b m σ own2 wc ∧ Ints own2 wc (.slice (some ⟨gl, 0, none⟩) l.length c) l ∧ WayN own2 wc (.slice (some ⟨go, 0, none⟩) rows.length co) rows ∧ Wayz own2 wc nv (nextF (waysF σ.parts n) σ.parts j))
      case first =>
        have hA1 := World.grownBy_alloc W (.cells #[.int .i64 j] 3) none
        obtain ⟨hW2, hK2⟩ := hW1.new hA1 (Nat.le_refl _) 7
        have hi2 := one_int (put own1 W.heap.size 7) (W.alloc (.cells #[.int .i64 j] 3)) W.heap.size j (Blk.new _ _ _) (put_same _ _ _)
        have hA2 := World.grownBy_alloc (W.alloc (.cells #[.int .i64 j] 3)) (.cells #[.slice (some ⟨W.heap.size, 0, none⟩) 1 1] 48) none
        obtain ⟨hW3, hK3⟩ := hW2.new hA2 (Nat.le_refl _) 7
        have hw3 := one_row _ _ _ _ _ (Blk.new (W.alloc (.cells #[.int .i64 j] 3)) #[.slice (some ⟨W.heap.size, 0, none⟩) 1 1] 48) (put_same _ _ _) (hi2.k7 hK3)
        have hK := hK2.trans hK3
        have hI3 := hI1.k7 hK
        have hO3 := hO1.k7 hK
        have hwy3 := hw1.k7 hK
        obtain ⟨hB3, hc3⟩ := hB1.k7 hc1 hK
        clear hW2 hK2 hK3 hA1 hA2 hi2 hK hW1 hI1 hO1 hw1 hB1 hc1 hg2
        rw [alloc_size] at hW3 hw3 hI3 hO3 hwy3 hc3
        generalize put (put own1 W.heap.size 7) (W.heap.size + 1) 7 = own3 at *
        by_cases hz : x.ways.length = 0
        · have hzi : (x.ways.length : Int) ≤ 0 := by omega
          have HN : Hid (nextF (waysF σ.parts n) σ.parts j = [[j]]) := nextF_leaf HX.out hz
          clear hz
          go_wp2
          go_meet
          case rel => exact ⟨own3, hW3, hI3, hO3, by rw [HN.out]; exact hw3⟩
        · have hzi : (0 : Int) < (x.ways.length : Int) := by omega
          have HN : Hid (nextF (waysF σ.parts n) σ.parts j = x.ways.flatMap (waysF σ.parts n)) := nextF_alt HX.out hz
          rw [HN.out] at hn16
          have hzd : decide (0 < x.ways.length) = true := by simp only [decide_eq_true_eq]; omega
          rw [hzd]
          clear hz hw3 hcl1 hzd
          have hpre16 : ∀ k2, ((x.ways.take k2).flatMap (waysF σ.parts n)).length ≤ 16 := fun k2 => by
            have e : x.ways.flatMap (waysF σ.parts n) = (x.ways.take k2).flatMap (waysF σ.parts n) ++ (x.ways.drop k2).flatMap (waysF σ.parts n) := by rw [← List.flatMap_append, List.take_append_drop]
            rw [e, List.length_append] at hn16; omega
          have HR : Hid (∀ way ∈ x.ways, WB σ.parts n way ∧ 1 ≤ (waysF σ.parts n way).length) := hrec
          have HIH : Hid (WaysC n σ) := ih
          clear hrec ih hnr har hn16
          have b6' := hB3.cell 6
          simp at b6'
          go_wp2_with fail
          go_loopw [8, 9] (fun nv i wr2 => ∃ k2 : Nat, k2 ≤ x.ways.length ∧ i = .int .i64 k2 ∧ WN own w b m σ (.slice (some ⟨gl, 0, none⟩) l.length c) l (.slice (some ⟨go, 0, none⟩) rows.length co) rows L x (.slice wa x.ways.length wc) nv ((x.ways.take k2).flatMap (waysF σ.parts n)) wr2) (fun _ i _ => x.ways.length - (intOf i).toNat)
          case atStart => exact ⟨0, Nat.zero_le _, rfl, own3, hW3, hI3, hO3, hwy3, hB3, hc3, Way9.nil _ _ _⟩
          case round =>
            obtain ⟨k2, hk2, rfl, own4, hW4, hI4, hO4, hwy4, hB4, hc4, h94⟩ := hrel
            clear hW3 hI3 hO3 hwy3 hB3 hc3 b6 b6' hLlt hL1 hL2
            have b6 := hB4.cell 6
            simp [PC] at b6
            have hLlt := hB4.lt
            by_cases hl2 : k2 < x.ways.length
            · obtain ⟨gw, cw, vw, ew, hgw, hvwl, hvwc, hvw1, hvwi⟩ := hwy4.at0 (by omega)
              simp only [Value.slice.injEq] at ew
              obtain ⟨rfl, _, rfl⟩ := ew
              have hu := hvwc k2 (vw[k2]'(by omega)) (by simp)
              rw [addr_add, Nat.zero_add] at hu
              have hIu := hvwi k2 (by omega) hl2
              obtain ⟨ua, un, uc, eu⟩ := hIu.form
              rw [eu] at hu hIu
              have hm := List.getElem_mem hl2
              obtain ⟨hwb, hw1l⟩ := HR.out _ hm
              have HW : Hid ((x.ways.take (k2 + 1)).flatMap (waysF σ.parts n) = (x.ways.take k2).flatMap (waysF σ.parts n) ++ waysF σ.parts n x.ways[k2]) := flatMap_take_succ _ _ _ hl2
              have hp16 := hpre16 (k2 + 1)
              rw [HW.out, List.length_append] at hp16
              have hC := HIH.out x.ways[k2] hwb own4 wr b m _ hW4.st hIu
              have h20 : (0 : Int) ≤ (k2 : Int) := by omega
              have h21 : (k2 : Int) < (x.ways.length : Int) := by omega
              generalize waysF σ.parts n x.ways[k2] = ws at *
              generalize (x.ways.take k2).flatMap (waysF σ.parts n) = acc at *
              clear hvwc hvw1 hvwi hwb hm
              go_wp2_with (first
                | (go_at_call 59; refine hC.mono ?_; rintro e w5 ⟨rv, own5, rfl, hS5, hE5, hR5⟩; obtain ⟨gr, cr, vr, rfl, hgr5, hvr, hvrc, hvr1, hvri⟩ := hR5.at0 hw1l; have hW5 : WS own w b m σ own5 w5 := ⟨hS5, hW4.ext.trans hE5⟩; obtain ⟨va9, hrow9, hcol9, hvl9, hvi9⟩ := h94.ext hE5; obtain ⟨j0, hj00, hy0, hy1, hy2⟩ := info_parts Tryz.infoInts)
                | (at_builtin; refine wpList_append_lies _ rfl _ _ 40 rfl 0 48 j0 _ 1 24 Tryz.underlying40 hj00 hy0 hy1 hy2 rfl (by decide) _ acc.length va9 (by rfl) hrow9 ⟨gr, 0, none⟩ ws.length cr vr (by rfl) (by rw [hvr]; simp) hvrc hvr1 hw1l (by unfold maxLen; omega) (by omega) (Nat.zero_le _) w5.heap.size rfl ?_; intro g9 cap9 w6 hown hgrow hat hlt6))
              obtain ⟨hW6, hK6, h96⟩ := hW5.app hrow9 hcol9 hvl9 hvi9 (us := vr) (ls := ws) hvr hvri hown hgrow hat
              have hKK := hE5.k7.trans hK6
              obtain ⟨hB6, hc6⟩ := hB4.k7 hc4 hKK
              go_roundw
              case rel => exact ⟨k2 + 1, by omega, by go_num, _, hW6, hI4.k7 hKK, hO4.k7 hKK, hwy4.k7 hKK, hB6, hc6, by rw [HW.out]; exact h96⟩
              case measure => simp [intOf]; omega
            · have e : k2 = x.ways.length := by omega
              subst e
              rw [List.take_length] at h94
              obtain ⟨own5, hW5, hK5, hY5⟩ := hW4.done h94
              have hI5 := hI4.k7 hK5
              have hO5 := hO4.k7 hK5
              clear hW4 hI4 hO4 hwy4 hB4 hc4 h94 hK5
              go_wp2_with fail
              go_meet
              case rel => exact ⟨own5, hW5, hI5, hO5, by rw [HN.out]; exact hY5⟩
      case rest =>
        obtain ⟨own2, hW2, hI2, hO2, hN2⟩ := hcut
        clear hW1 hI1 hO1 hw1 hB1 hc1 b6 hLlt hL1 hL2 hg2 hcl1 ih hrec
        generalize nextF (waysF σ.parts n) σ.parts j = nx at *
        have HE : Hid (rows2 = rows.flatMap fun r => nx.map fun s => r ++ s) := HS.out
        clear HS
        have HRne : Hid (∀ r ∈ nx, r.length ≤ 100000 ∧ r ≠ []) := hnr
        have HRr : Hid (∀ r ∈ rows, r.length ≤ 100000) := fun r hr => (har r hr).1
        have H16 : Hid (∀ z, ((rows.take z).flatMap fun r => nx.map fun s => r ++ s).length ≤ 16) := fun z => by
          have e : rows2 = ((rows.take z).flatMap fun r => nx.map fun s => r ++ s) ++ ((rows.drop z).flatMap fun r => nx.map fun s => r ++ s) := by rw [HE.out, ← List.flatMap_append, List.take_append_drop]
          have := HA1.out
          rw [e, List.length_append] at this; omega
        obtain ⟨nva, nvn, nvc, rfl, hnvn, _⟩ := hN2.at
        subst hnvn
        clear hnr har
        go_wp2_with fail
        go_loopw [11, 12] (fun av i wr3 => ∃ k3 : Nat, k3 ≤ rows.length ∧ i = .int .i64 k3 ∧ WP own w b m σ (.slice (some ⟨gl, 0, none⟩) l.length c) l (.slice (some ⟨go, 0, none⟩) rows.length co) rows (.slice nva nx.length nvc) nx av ((rows.take k3).flatMap fun r => nx.map fun s => r ++ s) wr3) (fun _ i _ => rows.length - (intOf i).toNat)
        case atStart => exact ⟨0, Nat.zero_le _, rfl, own2, hW2, hI2, hO2, hN2, Way9.nil _ _ _⟩
        case round =>
          obtain ⟨k3, hk3, rfl, own3, hW3, hI3, hO3, hN3, h93⟩ := hrel
          clear hW2 hI2 hO2 hN2
          by_cases hl3 : k3 < rows.length
          · have h30 : (0 : Int) ≤ (k3 : Int) := by omega
            have h31 : (k3 : Int) < (rows.length : Int) := by omega
            have HT3 : Hid (((rows.take (k3 + 1)).flatMap fun r => nx.map fun s => r ++ s) = ((rows.take k3).flatMap fun r => nx.map fun s => r ++ s) ++ nx.map fun s => rows[k3] ++ s) := flatMap_take_succ _ _ _ hl3
            have H16a := H16.out (k3 + 1)
            rw [HT3.out, List.length_append, List.length_map] at H16a
            have HRk : Hid (rows[k3].length ≤ 100000) := HRr.out _ (List.getElem_mem _)
            generalize hrk : rows[k3] = rk at *
            generalize ((rows.take k3).flatMap fun r => nx.map fun s => r ++ s) = acc at *
            go_wp2_with fail
            go_loopw [11, 13] (fun av i wr4 => ∃ k4 : Nat, k4 ≤ nx.length ∧ i = .int .i64 k4 ∧ WP own w b m σ (.slice (some ⟨gl, 0, none⟩) l.length c) l (.slice (some ⟨go, 0, none⟩) rows.length co) rows (.slice nva nx.length nvc) nx av (acc ++ (nx.take k4).map fun s => rk ++ s) wr4) (fun _ i _ => nx.length - (intOf i).toNat)
            case atStart => exact ⟨0, Nat.zero_le _, rfl, own3, hW3, hI3, hO3, hN3, by simpa using h93⟩
            case round =>
              obtain ⟨k4, hk4, rfl, own4, hW4, hI4, hO4, hN4, h94⟩ := hrel
              clear hW3 hI3 hO3 hN3 h93
              by_cases hl4 : k4 < nx.length
              · obtain ⟨gn, cn, vn, en, hgn, hvnl, hvnc, hvn1, hvni⟩ := hN4.at0 (by omega)
                simp only [Value.slice.injEq] at en
                obtain ⟨rfl, _, rfl⟩ := en
                have hun := hvnc k4 (vn[k4]'(by omega)) (by simp)
                rw [addr_add, Nat.zero_add] at hun
                have hIn := hvni k4 (by omega) hl4
                have hne4 := HRne.out _ (List.getElem_mem hl4)
                obtain ⟨g4, c4, e4, hg4, hc4⟩ := hIn.at0 hne4.2
                rw [e4] at hun
                obtain ⟨go5, co5, vo, eo, hgo5, hvol, hvoc, hvo1, hvoi⟩ := hO4.1.at0 (by omega)
                simp only [Value.slice.injEq, Option.some.injEq, Addr.mk.injEq] at eo
                obtain ⟨⟨rfl, _⟩, _, rfl⟩ := eo
                have huo := hvoc k3 (vo[k3]'(by omega)) (by simp)
                rw [addr_add, Nat.zero_add] at huo
                have hIo := hvoi k3 (by omega) hl3
                rw [hrk] at hIo
                have HT4 : Hid ((nx.take (k4 + 1)).map (fun s => rk ++ s) = (nx.take k4).map (fun s => rk ++ s) ++ [rk ++ nx[k4]]) := by show _ = _; rw [List.take_succ_eq_append_getElem hl4, List.map_append]; rfl
                have h40 : (0 : Int) ≤ (k4 : Int) := by omega
                have h41 : (k4 : Int) < (nx.length : Int) := by omega
                have hn4l := hne4.1
                have hn4p : 0 < nx[k4].length := List.length_pos_iff.2 hne4.2
                have HI4n : Hid (Ints own4 wr (.slice (some ⟨g4, 0, none⟩) nx[k4].length c4) nx[k4]) := by show Ints _ _ _ _; rw [← e4]; exact hIn
                clear hvnc hvn1 hvni hvoc hvo1 hvoi hIn hne4 e4
                obtain ⟨j0, hj00, hy0, hy1, hy2⟩ := info_parts Tryz.infoInts
                obtain ⟨j1, hj10, hq0, hq1, hq2⟩ := info_parts Tryz.infoInt
                obtain ⟨va9, hrow9, hcol9, hvl9, hvi9⟩ := h94
                have hacc4 : (acc ++ (nx.take k4).map fun s => rk ++ s).length ≤ 15 := by simp only [List.length_append, List.length_map, List.length_take]; omega
                generalize hnk : nx[k4] = nk at *
                generalize hA4 : (acc ++ (nx.take k4).map fun s => rk ++ s) = acc4 at *
                have HrkL := HRk.out
                have kw := hW4.ext.size
                by_cases hrk0 : rk = []
                · have hcell := hO4.2 go _ _ rfl k3 hl3 (by rw [hrk]; exact hrk0)
                  rw [huo] at hcell
                  simp only [Option.some.injEq] at hcell
                  rw [hcell] at huo
                  clear hcell hIo
                  go_wp2_with (first
                    | (at_builtin; refine wpList_append_lies _ rfl _ _ 40 rfl 0 48 j0 _ 1 24 Tryz.underlying40 hj00 hy0 hy1 hy2 rfl (by decide) _ acc4.length va9 (by rfl) (hrow6.alloc _) ⟨w6.heap.size, 0, none⟩ 1 1 [.slice (some ⟨wr.heap.size, 0, none⟩) nk.length cap1] (by rfl) rfl (World.news_of_block (alloc_at _ _ _ (by simp))) (by simp [Value.oneCell']) (by decide) (by unfold maxLen; omega) (by omega) (Nat.zero_le _) (w6.heap.size + 1) (by simp) ?_; intro g9 cap9 w7 hown hgrow hat hlt7)
                    | (at_builtin; refine wpList_append_lies _ rfl _ _ 48 rfl 0 3 j1 _ 1 8 Tryz.underlying48 hj10 hq0 hq1 hq2 rfl (by decide) _ 0 [] (by rfl) (World.ownsRow_nil _ _ _ _) ⟨g4, 0, none⟩ nk.length c4 (nk.map fun n : Nat => Value.int .i64 (n : Int)) (by rfl) (by simp) hc4 (by simp [Value.oneCell']) hn4p (by unfold maxLen; omega) (by omega) (Nat.zero_le _) wr.heap.size rfl ?_; intro g1 cap1 w6 hown1 hgrow1 hat1 hlt1; have hgr1 : wr.grownBy w6 none := hgrow1; obtain rfl : g1 = wr.heap.size := (by rcases hat1 with e | e; exact absurd e (by simp [Value.ownBlock]); exact e); obtain ⟨hW6, hK6, hI6⟩ := hW4.ints hgr1 (g := wr.heap.size) (Nat.le_refl _) (n := nk.length) (cap := cap1) (l := nk) (by simpa using hown1); have hrow6 : w6.ownsRow 0 48 1 u11 acc4.length va9 := row_of_blk hrow9 (fun g hg => hgr1.block g (hrow9.lt g hg).2 (by simp))))
                  obtain ⟨own7, hW7, hK7, h97⟩ := hW6.row hK6 (fun k hk => put_other _ _ _ _ (by omega)) hrow9 hrow6 hcol9 hvl9 hvi9 hI6 hown hgrow hat
                  refine ⟨⟨k4 + 1, by omega, by go_num, own7, hW7, hI4.k7 hK7, hO4.k7 hK7, hN4.k7 hK7, ?_⟩, by simp [intOf]; omega⟩
                  rw [HT4.out, ← List.append_assoc, hA4, hrk0]
                  exact h97
                · obtain ⟨g5, c5, e5, hg5, hc5⟩ := hIo.at0 hrk0
                  rw [e5] at huo
                  have hrkp : 0 < rk.length := List.length_pos_iff.2 hrk0
                  clear hIo e5
                  go_wp2_with (first
                    | (at_builtin; refine wpList_append_lies _ rfl _ _ 40 rfl 0 48 j0 _ 1 24 Tryz.underlying40 hj00 hy0 hy1 hy2 rfl (by decide) _ acc4.length va9 (by rfl) (hrow6.alloc _) ⟨w6.heap.size, 0, none⟩ 1 1 [.slice (some ⟨g2, 0, none⟩) (rk.length + nk.length) cap2] (by rfl) rfl (World.news_of_block (alloc_at _ _ _ (by simp))) (by simp [Value.oneCell']) (by decide) (by unfold maxLen; omega) (by omega) (Nat.zero_le _) (w6.heap.size + 1) (by simp) ?_; intro g9 cap9 w7 hown hgrow hat hlt7)
                    | (at_builtin; refine wpList_append_lies _ rfl _ _ 48 rfl 0 3 j1 _ 1 8 Tryz.underlying48 hj10 hq0 hq1 hq2 rfl (by decide) _ rk.length (rk.map fun n : Nat => Value.int .i64 (n : Int)) (by rfl) hown1' ⟨g4, 0, none⟩ nk.length c4 (nk.map fun n : Nat => Value.int .i64 (n : Int)) (by rfl) (by simp) hc4' (by simp [Value.oneCell']) hn4p (by unfold maxLen; omega) (by omega) (Nat.zero_le _) w5.heap.size rfl ?_; intro g2 cap2 w6 hown2 hgrow2 hat2 hlt2; have hgr2 : wr.grownBy w6 none := grownBy_new hgr1 hgrow2 (Nat.le_refl _); have hg2n : wr.heap.size ≤ g2 := (by rcases hat2 with e | e; (simp [Value.ownBlock] at e; omega); (have := hgr1.size; omega)); obtain ⟨hW6, hK6, hI6⟩ := hW4.ints hgr2 (g := g2) hg2n (n := rk.length + nk.length) (cap := cap2) (l := rk ++ nk) (by rw [List.map_append]; exact hown2); have hrow6 : w6.ownsRow 0 48 1 u11 acc4.length va9 := row_of_blk hrow9 (fun g hg => hgr2.block g (hrow9.lt g hg).2 (by simp)); clear hgrow2 hat2 hown2)
                    | (at_builtin; refine wpList_append_lies _ rfl _ _ 48 rfl 0 3 j1 _ 1 8 Tryz.underlying48 hj10 hq0 hq1 hq2 rfl (by decide) _ 0 [] (by rfl) (World.ownsRow_nil _ _ _ _) ⟨g5, 0, none⟩ rk.length c5 (rk.map fun n : Nat => Value.int .i64 (n : Int)) (by rfl) (by simp) hc5 (by simp [Value.oneCell']) hrkp (by unfold maxLen; omega) (by omega) (Nat.zero_le _) wr.heap.size rfl ?_; intro g1 cap1 w5 hown1 hgrow1 hat1 hlt1; have hgr1 : wr.grownBy w5 none := hgrow1; obtain rfl : g1 = wr.heap.size := (by rcases hat1 with e | e; exact absurd e (by simp [Value.ownBlock]); exact e); have hown1' : w5.ownsRow 0 3 1 (.slice (some ⟨wr.heap.size, 0, none⟩) rk.length cap1) rk.length (rk.map fun n : Nat => Value.int .i64 (n : Int)) := (by simpa using hown1); have hun' : w5.cell? ⟨gn, k4, none⟩ = some (.slice (some ⟨g4, 0, none⟩) nk.length c4) := (cell_eq (hgr1.block gn hgn (by simp)) _).trans hun; have hc4' : ∀ j u, (nk.map fun n : Nat => Value.int .i64 (n : Int))[j]? = some u → w5.cell? ((⟨g4, 0, none⟩ : Addr).add j) = some u := (fun j u hu => by have := hc4 j u hu; rw [addr_add, Nat.zero_add] at this ⊢; exact (cell_eq (hgr1.block g4 hg4 (by simp)) _).trans this); clear hgrow1 hat1 hown1))
                  obtain ⟨own7, hW7, hK7, h97⟩ := hW6.row hK6 (fun k hk => put_other _ _ _ _ (by omega)) hrow9 hrow6 hcol9 hvl9 hvi9 hI6 hown hgrow hat
                  refine ⟨⟨k4 + 1, by omega, by go_num, own7, hW7, hI4.k7 hK7, hO4.k7 hK7, hN4.k7 hK7, ?_⟩, by simp [intOf]; omega⟩
                  rw [HT4.out, ← List.append_assoc, hA4]
                  exact h97
              · have e : k4 = nx.length := by omega
                subst e
                rw [List.take_length] at h94
                have hEnd : WP own w b m σ (.slice (some ⟨gl, 0, none⟩) l.length c) l (.slice (some ⟨go, 0, none⟩) rows.length co) rows (.slice nva nx.length nvc) nx u11 (acc ++ nx.map fun s => rk ++ s) wr := ⟨own4, hW4, hI4, hO4, hN4, h94⟩
                clear hW4 hI4 hO4 hN4 h94
                go_wp2_with fail
                go_roundw
                case rel => exact ⟨k3 + 1, by omega, by go_num, by rw [HT3.out]; exact hEnd⟩
                case measure => simp [intOf]; omega
          · have e : k3 = rows.length := by omega
            subst e
            rw [List.take_length, ← HE.out] at h93
            obtain ⟨own5, hW5, hK5, hY5⟩ := hW3.done h93
            have hI5 := hI3.k7 hK5
            clear hW3 hI3 hO3 hN3 h93 hK5
            go_wp2_with fail
            go_roundw
            case rel => exact ⟨k + 1, by omega, by go_num, own5, hW5, hI5, by rw [HQ.out]; exact ⟨hY5, fun g n c e i hi hr => absurd hr (HNE.out _ (List.getElem_mem _))⟩⟩
            case measure => simp [intOf]; omega
    · have e : k = l.length := by omega
      subst e
      have HF : Hid (waysF σ.parts (n + 1) l = wacc σ.parts n l l.length) := (wacc_all _ _ _).symm
      have HA : Hid (∃ own', St own' wr b m σ ∧ Ext own w own' wr ∧ Wayz own' wr (.slice (some ⟨go, 0, none⟩) (wacc σ.parts n l l.length).length co) (wacc σ.parts n l l.length)) := ⟨own', hW.st, hW.ext, hOut.1⟩
      clear hvc hv1 hvi hvl hacc hparts
      go_wp2_with fail
      go_ret
      obtain ⟨own3, h1, h2, h3⟩ := HA.out
      exact ⟨_, own3, rfl, h1, h2, by rw [HF.out]; exact h3⟩

set_option maxRecDepth 100000 in
set_option maxHeartbeats 800000 in
theorem ways_zero {σ : PSt} : WaysC 0 σ := by
  intro l hWB own w b m lv h hI
  have e : l = [] := hWB
  subst e
  obtain ⟨a, ln, c, rfl, hln, _⟩ := hI.at
  simp at hln
  subst hln
  have hg := World.grownBy_alloc w (.cells #[.slice none 0 0] 48) none
  obtain ⟨hW, hK⟩ := (WS.mk h (Ext.refl _ _) : WS own w b m σ own w).new hg (Nat.le_refl _) 7
  have hY := one_row (put own w.heap.size 7) _ w.heap.size _ [] (Blk.new w #[.slice none 0 0] 48) (put_same _ _ _) (Ints.nil _ _)
  have HA : Hid (∃ own', St own' (w.alloc (.cells #[.slice none 0 0] 48)) b m σ ∧ Ext own w own' (w.alloc (.cells #[.slice none 0 0] 48)) ∧ Wayz own' (w.alloc (.cells #[.slice none 0 0] 48)) (.slice (some ⟨w.heap.size, 0, none⟩) 1 1) [[]]) := ⟨_, hW.st, hW.ext, hY⟩
  clear h hI hg hW hK hY
  go_enter Tryz.func59, Tryz.ntmps59
  go_wp2_with fail
  go_loopw [5, 6] (fun v i wr => v = .slice (some ⟨w.heap.size, 0, none⟩) 1 1 ∧ i = .int .i64 0 ∧ wr = w.alloc (.cells #[.slice none 0 0] 48)) (fun _ i _ => 0)
  case atStart => exact ⟨rfl, rfl, rfl⟩
  case round =>
    obtain ⟨rfl, rfl, rfl⟩ := hrel
    go_wp2_with fail
    go_ret
    obtain ⟨own3, h1, h2, h3⟩ := HA.out
    exact ⟨_, own3, rfl, h1, h2, h3⟩
theorem ways_any {σ : PSt} (hlen : σ.parts.length ≤ 1000) (n : Nat) : WaysC n σ := by
  induction n with
  | zero => exact ways_zero
  | succ n ih => exact ways_step hlen n ih
end Go.Proofs.YtddbjcfdmdbmkaaGreatDoor

/-
  The document's path: memory.
-/
namespace Go.Proofs.YtddbjcfdmdbmkaaGreatDoor
open Go.RowKit

theorem WS.appC (c : Nat) (hc : 7 < c) {own own' : Nat → Nat} {w wr w' : World} {b : Nat} {m : PM} {σ : PSt} (h : WS own w b m σ own' wr) {v : Value} (hcol : ∀ g, v.ownBlock = some g → own' g = c ∧ w.heap.size ≤ g) {g : Nat} (hg : wr.grownBy w' v.ownBlock) (hat : v.ownBlock = some g ∨ g = wr.heap.size) :
    WS own w b m σ (put own' g c) w' ∧ K7 own' wr (put own' g c) w' ∧ w.heap.size ≤ g := by
  have hr : ∀ k, v.ownBlock = some k → own' k = c := fun k hk => (hcol k hk).1
  have hgw : w.heap.size ≤ g := by
    rcases hat with e | e
    · exact (hcol g e).2
    · have := h.ext.size; omega
  refine ⟨⟨h.st.appD c hc hr hg hat, h.ext.appD c hg (fun k hk => (hcol k hk).2) hat⟩, ⟨hg.size, fun k hk h7 => ?_⟩, hgw⟩
  have hkg : k ≠ g := fun e => by
    rcases hat with e' | e'
    · have := hr g e'; rw [← e, h7] at this; omega
    · omega
  refine ⟨(put_other _ _ _ _ hkg).trans h7, hg.block k hk (fun e => ?_)⟩
  have := hr k e.symm; omega
/-- numbers that are being gathered, of colour 10 -/
def IntC (own : Nat → Nat) (w : World) (v : Value) (l : List Nat) (lo : Nat) : Prop := w.ownsRow 0 3 1 v l.length (l.map fun n : Nat => Value.int .i64 (n : Int)) ∧ ∀ g, v.ownBlock = some g → own g = 10 ∧ lo ≤ g
theorem IntC.nil (own : Nat → Nat) (w : World) (lo : Nat) : IntC own w (.slice none 0 0) [] lo := ⟨World.ownsRow_nil _ _ _ _, fun g hg => by simp [Value.ownBlock] at hg⟩
def stCells (p : (Nat × List Nat) × Value) : List Value := [.int .i64 (p.1.1 : Nat), p.2]
/-- steps, their row of colour c -/
def StepC (c : Nat) (own : Nat → Nat) (w : World) (v : Value) (es : List (Nat × List Nat)) (lo : Nat) : Prop :=
  ∃ gvs : List Value, gvs.length = es.length ∧ w.ownsRow 0 204 2 v es.length (flat stCells (es.zip gvs)) ∧ (∀ g, v.ownBlock = some g → own g = c ∧ lo ≤ g) ∧ ∀ i, (h : i < gvs.length) → (h' : i < es.length) → Ints own w gvs[i] es[i].2
theorem StepC.nil (c : Nat) (own : Nat → Nat) (w : World) (lo : Nat) : StepC c own w (.slice none 0 0) [] lo := ⟨[], rfl, World.ownsRow_nil _ _ _ _, fun g hg => by simp [Value.ownBlock] at hg, fun i h => by simp at h⟩
/-- rows of another colour stay -/
theorem IntC.far {own : Nat → Nat} {w w' : World} {v : Value} {l : List Nat} {lo c g : Nat} {row : Option Nat} (h : IntC own w v l lo) (hg : w.grownBy w' row) (hr : ∀ k, row = some k → own k = c) (hc : 10 ≠ c) (hat : row = some g ∨ g = w.heap.size) : IntC (put own g c) w' v l lo := by
  obtain ⟨a, b⟩ := row_moved (g := g) 10 c h.1 (fun k hk => (h.2 k hk).1) hg hr hc hat
  exact ⟨a, fun k hk => ⟨b k hk, (h.2 k hk).2⟩⟩
theorem StepC.far {own : Nat → Nat} {w w' : World} {v : Value} {es : List (Nat × List Nat)} {lo c g : Nat} {row : Option Nat} (h : StepC 9 own w v es lo) (hk7 : K7 own w (put own g c) w') (hg : w.grownBy w' row) (hr : ∀ k, row = some k → own k = c) (hc : 9 ≠ c) (hat : row = some g ∨ g = w.heap.size) : StepC 9 (put own g c) w' v es lo := by
  obtain ⟨gvs, h1, h2, h3, h4⟩ := h
  obtain ⟨a, b⟩ := row_moved (g := g) 9 c h2 (fun k hk => (h3 k hk).1) hg hr hc hat
  exact ⟨gvs, h1, a, fun k hk => ⟨b k hk, (h3 k hk).2⟩, fun i x y => (h4 i x y).k7 hk7⟩
theorem IntC.keep {own own' : Nat → Nat} {w w' : World} {v : Value} {l : List Nat} {lo : Nat} (h : IntC own w v l lo) (hb : ∀ k, k < w.heap.size → own' k = own k ∧ w'.heap[k]? = w.heap[k]?) : IntC own' w' v l lo :=
  ⟨row_of_blk h.1 fun g hg => (hb g (h.1.lt g hg).2).2, fun g hg => ⟨((hb g (h.1.lt g hg).2).1).trans (h.2 g hg).1, (h.2 g hg).2⟩⟩
theorem StepC.keep {c : Nat} {own own' : Nat → Nat} {w w' : World} {v : Value} {es : List (Nat × List Nat)} {lo : Nat} (h : StepC c own w v es lo) (hk : K7 own w own' w') (hb : ∀ k, k < w.heap.size → own' k = own k ∧ w'.heap[k]? = w.heap[k]?) : StepC c own' w' v es lo := by
  obtain ⟨gvs, h1, h2, h3, h4⟩ := h
  exact ⟨gvs, h1, row_of_blk h2 fun g hg => (hb g (h2.lt g hg).2).2, fun g hg => ⟨((hb g (h2.lt g hg).2).1).trans (h3 g hg).1, (h3 g hg).2⟩, fun i x y => (h4 i x y).k7 hk⟩
/-- numbers that were gathered: nobody writes them any more -/
theorem IntC.done {own own' : Nat → Nat} {w wr : World} {b : Nat} {m : PM} {σ : PSt} (hW : WS own w b m σ own' wr) {v : Value} {l : List Nat} (h : IntC own' wr v l w.heap.size) : ∃ own2, WS own w b m σ own2 wr ∧ K7 own' wr own2 wr ∧ Ints own2 wr v l ∧ ∀ k, own' k = 9 → own2 k = 9 := by
  obtain ⟨hrow, hc⟩ := h
  cases hv : v.ownBlock with
  | none => exact ⟨own', hW, K7.refl _ _, ⟨⟨_, hrow⟩, fun g e => by rw [hv] at e; cases e⟩, fun _ e => e⟩
  | some g =>
    obtain ⟨c9, hgw⟩ := hc g hv
    refine ⟨put own' g 7, ⟨hW.st.recolor 7 (by omega), ⟨fun k hk => (put_other _ _ _ _ (by omega)).trans (hW.ext.same k hk), hW.ext.kept⟩⟩, ⟨Nat.le_refl _, fun k _ hkc => ⟨?_, rfl⟩⟩, ⟨⟨_, hrow⟩, fun g' e => by rw [hv] at e; cases e; exact put_same _ _ _⟩, fun k e => ?_⟩
    · by_cases e : k = g
      · subst e; exact put_same _ _ _
      · rw [put_other _ _ _ _ e]; exact hkc
    · rw [put_other]; exact e; intro e'; subst e'; omega
/-- a step more -/
theorem StepC.app {own own' : Nat → Nat} {w wr w' : World} {b : Nat} {m : PM} {σ : PSt} (hW : WS own w b m σ own' wr) {v : Value} {es : List (Nat × List Nat)} {gvs : List Value} (h1 : gvs.length = es.length) (hcol : ∀ g, v.ownBlock = some g → own' g = 9 ∧ w.heap.size ≤ g) (h4 : ∀ i, (h : i < gvs.length) → (h' : i < es.length) → Ints own' wr gvs[i] es[i].2)
    {j : Nat} {gs : List Nat} {gv : Value} (hgs : Ints own' wr gv gs) {g cap : Nat} (hown : w'.ownsRow 0 204 2 (.slice (some ⟨g, 0, none⟩) (es.length + 1) cap) (es.length + 1) (flat stCells (es.zip gvs) ++ [.int .i64 (j : Nat), gv])) (hg : wr.grownBy w' v.ownBlock) (hat : v.ownBlock = some g ∨ g = wr.heap.size) :
    WS own w b m σ (put own' g 9) w' ∧ K7 own' wr (put own' g 9) w' ∧ StepC 9 (put own' g 9) w' (.slice (some ⟨g, 0, none⟩) (es.length + 1) cap) (es ++ [(j, gs)]) w.heap.size := by
  obtain ⟨a, k, c⟩ := hW.appC 9 (by decide) hcol hg hat
  refine ⟨a, k, gvs ++ [gv], by simp [h1], ?_, fun k e => by cases e; exact ⟨put_same _ _ _, c⟩, ?_⟩
  · have e : (es ++ [(j, gs)]).zip (gvs ++ [gv]) = es.zip gvs ++ [((j, gs), gv)] := zip_snoc _ _ _ _ h1
    rw [e, flat_snoc]
    simpa [stCells] using hown
  · intro i x y
    by_cases hi : i < gvs.length
    · have hi2 : i < es.length := by omega
      rw [List.getElem_append_left hi]
      have := (h4 i hi hi2).k7 k
      rw [List.getElem_append_left hi2]; exact this
    · simp only [List.length_append, List.length_cons, List.length_nil] at x y
      have e1 : i = gvs.length := by omega
      have e2 : i = es.length := by omega
      rw [List.getElem_append_right (by omega), List.getElem_append_right (by omega)]
      simp only [e1, Nat.sub_self, List.getElem_cons_zero]
      have : gvs.length - es.length = 0 := by omega
      simp only [this, List.getElem_cons_zero]
      exact hgs.k7 k
theorem StepC.done {own own' : Nat → Nat} {w wr : World} {b : Nat} {m : PM} {σ : PSt} (hW : WS own w b m σ own' wr) {v : Value} {es : List (Nat × List Nat)} (h : StepC 9 own' wr v es w.heap.size) : ∃ own2, WS own w b m σ own2 wr ∧ K7 own' wr own2 wr ∧ StepC 7 own2 wr v es w.heap.size := by
  obtain ⟨gvs, h1, h2, h3, h4⟩ := h
  cases hv : v.ownBlock with
  | none => exact ⟨own', hW, K7.refl _ _, gvs, h1, h2, (fun g e => by rw [hv] at e; cases e), h4⟩
  | some g =>
    obtain ⟨c9, hgw⟩ := h3 g hv
    have hk : K7 own' wr (put own' g 7) wr := ⟨Nat.le_refl _, fun k _ hkc => ⟨by
      by_cases e : k = g
      · subst e; exact put_same _ _ _
      · rw [put_other _ _ _ _ e]; exact hkc, rfl⟩⟩
    refine ⟨put own' g 7, ⟨hW.st.recolor 7 (by omega), ⟨fun k hk => (put_other _ _ _ _ (by omega)).trans (hW.ext.same k hk), hW.ext.kept⟩⟩, hk, gvs, h1, h2, (fun g' e => by rw [hv] at e; cases e; exact ⟨put_same _ _ _, hgw⟩), fun i x y => (h4 i x y).k7 hk⟩
theorem Tryz.infoStep : (Tryz.prog.info? 204).map (fun i => (i.zero, i.size, i.bytes)) = some (some (.agg #[.int .i64 0, .slice none 0 0]), 2, 32) := by kernel_rfl
/-- how long they are at most -/
theorem path_bound (parts : List RPart) (ht : ∀ x ∈ parts, 0 ≤ x.times ∧ x.times ≤ 4) (row : List Nat) (k : Nat) (hk : k ≤ row.length) : ((row.take k).foldl (pathStep parts) ([], [], -1)).1.length ≤ 4 * k ∧ ((row.take k).foldl (pathStep parts) ([], [], -1)).2.1.length ≤ k := by
  have hrep : ∀ (j n : Nat) (s : List (Nat × List Nat) × List Nat), (repF j n s).1.length = s.1.length + n ∧ (repF j n s).2.length ≤ s.2.length := by
    intro j n s
    induction n with
    | zero => exact ⟨rfl, Nat.le_refl _⟩
    | succ n ih => exact ⟨by simp only [repF, List.length_append, List.length_cons, List.length_nil]; omega, by simp [repF]⟩
  induction k with
  | zero => simp
  | succ k ih =>
    rw [foldl_take_succ _ _ _ _ (by omega)]
    have h := ih (by omega)
    generalize (row.take k).foldl (pathStep parts) ([], [], -1) = s at *
    unfold pathStep
    cases hx : parts[row[k]]? with
    | none => simp only; omega
    | some x =>
      simp only
      have := ht x (List.mem_of_getElem? hx)
      split
      · simp only [List.length_append, List.length_cons, List.length_nil]; omega
      · have hr := hrep row[k] x.times.toNat (s.1, s.2.1)
        simp only at hr ⊢
        omega
end Go.Proofs.YtddbjcfdmdbmkaaGreatDoor

/-
  The document's path: the walk.
-/
namespace Go.Proofs.YtddbjcfdmdbmkaaGreatDoor
open Go.RowKit

/-- in path's loops -/
def PI (own : Nat → Nat) (w : World) (b : Nat) (m : PM) (σ : PSt) (rv : Value) (row : List Nat) (sv gv : Value) (s : List (Nat × List Nat) × List Nat) (wr : World) : Prop :=
  ∃ own', WS own w b m σ own' wr ∧ Ints own' wr rv row ∧ StepC 9 own' wr sv s.1 w.heap.size ∧ IntC own' wr gv s.2 w.heap.size
def PathC (row : List Nat) (σ : PSt) : Prop := ∀ (own : Nat → Nat) (w : World) (b : Nat) (m : PM) (rv : Value), St own w b m σ → Ints own w rv row →
  Calls Tryz.prog 60 #[.pointer (some ⟨b, 0, none⟩), rv] w fun e w' => ∃ sv own', e = .returned (.tuple #[sv, .int .i64 (pathF σ.parts row).2]) ∧ St own' w' b m σ ∧ Ext own w own' w' ∧ StepC 7 own' w' sv (pathF σ.parts row).1 w.heap.size
theorem pathStep_guard {parts : List RPart} {s : List (Nat × List Nat) × List Nat × Int} {j : Nat} {x : RPart} (hx : parts[j]? = some x) (hg : x.guard = true) : pathStep parts s j = (s.1, s.2.1 ++ [j], if s.1.length = 0 then minW s.2.2 x.pos else s.2.2) := by unfold pathStep; rw [hx]; simp [hg]
theorem pathStep_step {parts : List RPart} {s : List (Nat × List Nat) × List Nat × Int} {j : Nat} {x : RPart} (hx : parts[j]? = some x) (hg : x.guard = false) : pathStep parts s j = ((repF j x.times.toNat (s.1, s.2.1)).1, (repF j x.times.toNat (s.1, s.2.1)).2, s.2.2) := by unfold pathStep; rw [hx]; simp [hg]
theorem repF_len (j n : Nat) (s : List (Nat × List Nat) × List Nat) : (repF j n s).1.length = s.1.length + n ∧ (repF j n s).2.length ≤ s.2.length := by
  induction n with
  | zero => exact ⟨rfl, Nat.le_refl _⟩
  | succ n ih => exact ⟨by simp only [repF, List.length_append, List.length_cons, List.length_nil]; omega, by simp [repF]⟩
/-- where a row lies -/
theorem row_at2 {w : World} {e : TypeId} {size : Nat} {v : Value} {n : Nat} {xs : List Value} (h : w.ownsRow 0 e size v n xs) : ∃ a c, v = .slice a n c ∧ (0 < n → ∃ g, a = some ⟨g, 0, none⟩ ∧ g < w.heap.size ∧ ∀ k x, xs[k]? = some x → w.cell? ⟨g, k, none⟩ = some x) := by
  have hc := fun (g : Nat) (e : v.ownBlock = some g) => h.cells (g := g) e
  have hl := fun (g : Nat) (e : v.ownBlock = some g) => (h.lt g e).2
  rcases h.2 with ⟨rfl, h0⟩ | ⟨g, c, cur, rfl, _⟩
  · subst h0; exact ⟨none, 0, rfl, fun hh => absurd hh (by decide)⟩
  · refine ⟨_, _, rfl, fun _ => ⟨g, rfl, hl g rfl, fun k x hx => ?_⟩⟩
    have := hc g rfl k x hx
    rw [addr_add, Nat.zero_add] at this; exact this
theorem StepC.form {c : Nat} {own : Nat → Nat} {w : World} {v : Value} {es : List (Nat × List Nat)} {lo : Nat} (h : StepC c own w v es lo) : ∃ a cp, v = .slice a es.length cp := by
  obtain ⟨gvs, h1, h2, _⟩ := h
  obtain ⟨a, c, e, _⟩ := row_at2 h2
  exact ⟨a, c, e⟩
theorem IntC.form {own : Nat → Nat} {w : World} {v : Value} {l : List Nat} {lo : Nat} (h : IntC own w v l lo) : ∃ a cp, v = .slice a l.length cp := by
  obtain ⟨a, c, e, _⟩ := row_at2 h.1
  exact ⟨a, c, e⟩

/-- a guard more -/
theorem PI.guard {own own1 : Nat → Nat} {w W w6 : World} {b : Nat} {m : PM} {σ : PSt} {rv sv gv : Value} {row : List Nat} {ss : List (Nat × List Nat)} {sg : List Nat} (hW : WS own w b m σ own1 W) (hI : Ints own1 W rv row) (hS : StepC 9 own1 W sv ss w.heap.size) (hrowg : W.ownsRow 0 3 1 gv sg.length (sg.map fun n : Nat => Value.int .i64 (n : Int)))
    (hcolg : ∀ g, gv.ownBlock = some g → own1 g = 10 ∧ w.heap.size ≤ g) {o : Obj} {j g2 cap2 : Nat} (hown : w6.ownsRow 0 3 1 (.slice (some ⟨g2, 0, none⟩) (sg.length + 1) cap2) (sg.length + 1) ((sg.map fun n : Nat => Value.int .i64 (n : Int)) ++ [.int .i64 (j : Nat)])) (hgrow : (W.alloc o).grownBy w6 gv.ownBlock) (hat : gv.ownBlock = some g2 ∨ g2 = W.heap.size + 1) :
    PI own w b m σ rv row sv (.slice (some ⟨g2, 0, none⟩) (sg.length + 1) cap2) (ss, sg ++ [j]) w6 ∧ K7 own1 W (put own1 g2 10) w6 := by
  obtain ⟨hW2, hK2⟩ := hW.keep (World.grownBy_alloc W o none)
  have hat' : gv.ownBlock = some g2 ∨ g2 = (W.alloc o).heap.size := by rw [alloc_size]; exact hat
  obtain ⟨hW3, hK3, hgw⟩ := hW2.appC 10 (by decide) hcolg hgrow hat'
  have hr : ∀ k, gv.ownBlock = some k → own1 k = 10 := fun k hk => (hcolg k hk).1
  have hS2 := hS.keep hK2 (fun k hk => ⟨rfl, Below.heap_alloc _ _ _ hk⟩)
  refine ⟨⟨_, hW3, (hI.k7 hK2).k7 hK3, hS2.far hK3 hgrow hr (by decide) hat', by simpa using hown, fun k e => by cases e; exact ⟨put_same _ _ _, hgw⟩⟩, hK2.trans hK3⟩
/-- a step more -/
theorem PI.step {own own1 : Nat → Nat} {w W w6 : World} {b : Nat} {m : PM} {σ : PSt} {rv sv gv : Value} {row : List Nat} {ss : List (Nat × List Nat)} {sg : List Nat} (hW : WS own w b m σ own1 W) (hI : Ints own1 W rv row) {gvs : List Value} (h1 : gvs.length = ss.length) (hrows : W.ownsRow 0 204 2 sv ss.length (flat stCells (ss.zip gvs))) (hcol : ∀ g, sv.ownBlock = some g → own1 g = 9 ∧ w.heap.size ≤ g)
    (h4 : ∀ i, (h : i < gvs.length) → (h' : i < ss.length) → Ints own1 W gvs[i] ss[i].2) (hG : IntC own1 W gv sg w.heap.size) {o : Obj} {j g2 cap2 : Nat} (hown : w6.ownsRow 0 204 2 (.slice (some ⟨g2, 0, none⟩) (ss.length + 1) cap2) (ss.length + 1) (flat stCells (ss.zip gvs) ++ [.int .i64 (j : Nat), gv])) (hgrow : (W.alloc o).grownBy w6 sv.ownBlock) (hat : sv.ownBlock = some g2 ∨ g2 = W.heap.size + 1) :
    ∃ own6, K7 own1 W own6 w6 ∧ WS own w b m σ own6 w6 ∧ Ints own6 w6 rv row ∧ StepC 9 own6 w6 (.slice (some ⟨g2, 0, none⟩) (ss.length + 1) cap2) (ss ++ [(j, sg)]) w.heap.size ∧ IntC own6 w6 (.slice none 0 0) [] w.heap.size := by
  obtain ⟨own2, hW2, hK2, hI2, h9⟩ := IntC.done hW hG
  obtain ⟨hW3, hK3⟩ := hW2.keep (World.grownBy_alloc W o none)
  have hat' : sv.ownBlock = some g2 ∨ g2 = (W.alloc o).heap.size := by rw [alloc_size]; exact hat
  obtain ⟨hW4, hK4, hS4⟩ := StepC.app hW3 h1 (fun g hg => ⟨h9 g (hcol g hg).1, (hcol g hg).2⟩) (fun i x y => ((h4 i x y).k7 hK2).k7 hK3) (hI2.k7 hK3) hown hgrow hat'
  have hKK := (hK2.trans hK3).trans hK4
  exact ⟨_, hKK, hW4, hI.k7 hKK, hS4, IntC.nil _ _ _⟩

theorem guards_in (parts : List RPart) (row : List Nat) : ∀ g ∈ (row.foldl (pathStep parts) ([], [], -1)).2.1, g ∈ row := by
  have hrep : ∀ (j n : Nat) (s : List (Nat × List Nat) × List Nat), ∀ g ∈ (repF j n s).2, g ∈ s.2 := by
    intro j n s
    induction n with
    | zero => exact fun g h => h
    | succ n ih => intro g h; simp [repF] at h
  have H : ∀ (row : List Nat) (s : List (Nat × List Nat) × List Nat × Int), ∀ g ∈ (row.foldl (pathStep parts) s).2.1, g ∈ s.2.1 ∨ g ∈ row := by
    intro row
    induction row with
    | nil => intro s g h; exact .inl h
    | cons j row ih =>
      intro s g h
      rw [List.foldl_cons] at h
      rcases ih _ g h with h | h
      · unfold pathStep at h
        cases hx : parts[j]? with
        | none => rw [hx] at h; exact .inl h
        | some x =>
          rw [hx] at h
          simp only at h
          split at h
          · rcases List.mem_append.1 h with h | h
            · exact .inl h
            · simp at h; subst h; exact .inr (by simp)
          · exact .inl (hrep _ _ _ g h)
      · exact .inr (by simp [h])
  intro g h
  rcases H row _ g h with h | h
  · simp at h
  · exact h

set_option maxRecDepth 100000 in
set_option maxHeartbeats 3200000 in
theorem path_any {σ : PSt} (ht : ∀ x ∈ σ.parts, 0 ≤ x.times ∧ x.times ≤ 4) (row : List Nat) (hrow : ∀ j ∈ row, ∃ x, σ.parts[j]? = some x) (hlen : row.length ≤ 100000) : PathC row σ := by
  intro own w b m rv h hI
  obtain ⟨a, ln, c, rfl, hln, hlg⟩ := hI.at
  subst hln
  have hlg' : 0 < row.length → ∃ g, a = some ⟨g, 0, none⟩ := fun hh => by obtain ⟨g, e, _⟩ := hlg hh; exact ⟨g, e⟩
  have hP0 : PI own w b m σ (.slice a row.length c) row (.slice none 0 0) (.slice none 0 0) ([], []) w := ⟨own, ⟨h, Ext.refl _ _⟩, hI, StepC.nil _ _ _ _, IntC.nil _ _ _⟩
  clear hlg h hI
  go_enter Tryz.func60, Tryz.ntmps60
  go_wp2_with fail
  go_loopw [6, 7, 8, 9] (fun sv gv wv i wr => ∃ k : Nat, k ≤ row.length ∧ i = .int .i64 k ∧ wv = .int .i64 ((row.take k).foldl (pathStep σ.parts) ([], [], -1)).2.2 ∧ PI own w b m σ (.slice a row.length c) row sv gv (((row.take k).foldl (pathStep σ.parts) ([], [], -1)).1, ((row.take k).foldl (pathStep σ.parts) ([], [], -1)).2.1) wr) (fun _ _ _ i _ => row.length - (intOf i).toNat)
  case atStart => exact ⟨0, Nat.zero_le _, rfl, rfl, hP0⟩
  case round =>
    obtain ⟨k, hk, rfl, rfl, own', hW, hI, hSt, hGu⟩ := hrel
    clear hP0
    have hbd := path_bound σ.parts ht row k hk
    by_cases hlt : k < row.length
    · obtain ⟨gl, rfl⟩ := hlg' (by omega)
      have hcl := hI.cellAt k hlt
      obtain ⟨x, hx⟩ := hrow row[k] (List.getElem_mem _)
      have HF : Hid ((row.take (k + 1)).foldl (pathStep σ.parts) ([], [], -1) = pathStep σ.parts ((row.take k).foldl (pathStep σ.parts) ([], [], -1)) row[k]) := foldl_take_succ _ _ _ _ hlt
      generalize (row.take k).foldl (pathStep σ.parts) ([], [], -1) = s at *
      obtain ⟨ss, sg, sw⟩ := s
      simp only at hbd hSt hGu
      generalize row[k] = j at *
      have hjl : j < σ.parts.length := by obtain ⟨hj, _⟩ := List.getElem?_eq_some_iff.1 hx; exact hj
      obtain ⟨g, cap, wv, hv, _, hway, c0, c1, c2, c3, c4, c5, c6⟩ := hW.st.part_at hx
      obtain ⟨wa, wn, wc, rfl, hwn, hwg⟩ := hway.at
      subst hwn
      have d9 := hW.st.cell 9
      simp [PCells] at d9
      rw [hv] at d9
      have hj0 : (0 : Int) ≤ (j : Int) := by omega
      have hj1 : (j : Int) < (σ.parts.length : Int) := by omega
      have hk0 : (0 : Int) ≤ (k : Int) := by omega
      have hk1 : (k : Int) < (row.length : Int) := by omega
      have HX : Hid (σ.parts[j]? = some x) := hx
      have htx := ht x (List.mem_of_getElem? hx)
      clear hx hv hwg
      go_upto_region 7 with fail
      go_region_held3 (fun w' => w'.cell? ⟨b, 9, none⟩ = some (.slice (some ⟨g, 0, none⟩) σ.parts.length cap) ∧ w'.cell? ⟨gl, k, none⟩ = some (.int .i64 j) ∧ w'.cell? ⟨g, j * 7, none⟩ = some (.int .i64 x.pos) ∧ w'.cell? ⟨g, j * 7 + 1, none⟩ = some (.bool x.guard) ∧ w'.cell? ⟨g, j * 7 + 2, none⟩ = some (.string x.name) ∧ w'.cell? ⟨g, j * 7 + 3, none⟩ = some (.int .i64 x.kind) ∧ w'.cell? ⟨g, j * 7 + 4, none⟩ = some (.int .i64 x.times) ∧ w'.cell? ⟨g, j * 7 + 5, none⟩ = some (.int .i64 x.cond) ∧ w'.cell? ⟨g, j * 7 + 6, none⟩ = some (.slice wa x.ways.length wc)) (go_keep) (fail)
      have hgr : wr.grownBy (wr.alloc (.cells (PC x (.slice wa x.ways.length wc)) 202)).drew none := ⟨rfl, rfl, rfl, by simp, fun i hi _ => Below.heap_alloc _ _ _ hi⟩
      obtain ⟨hW1, hK1⟩ := hW.new hgr (Nat.le_refl _) 7
      have hsame : ∀ z, z < wr.heap.size → put own' wr.heap.size 7 z = own' z ∧ (wr.alloc (.cells (PC x (.slice wa x.ways.length wc)) 202)).drew.heap[z]? = wr.heap[z]? := fun z hz => ⟨put_other _ _ _ _ (by omega), hgr.block z hz (by simp)⟩
      have hB1 : Blk (wr.alloc (.cells (PC x (.slice wa x.ways.length wc)) 202)).drew wr.heap.size (PC x (.slice wa x.ways.length wc)) 202 := (Blk.new wr _ _).drew
      have hc1 := put_same own' wr.heap.size 7
      have hI1 := hI.k7 hK1
      have hSt1 := hSt.keep hK1 hsame
      have hGu1 := hGu.keep hsame
      have hcl1 := hI1.cellAt k hlt
      have hcl2 := hI.cellAt k hlt
      rw [hcl] at hcl2
      rw [← hcl2] at hcl1
      clear hW hI hSt hGu hway hgr hsame hK1 c0 c1 c2 c3 c4 c5 c6 d9
      unfold PC at hW1 hB1 hI1 hSt1 hGu1 hcl1
      generalize (wr.alloc (.cells #[.int .i64 x.pos, .bool x.guard, .string x.name, .int .i64 x.kind, .int .i64 x.times, .int .i64 x.cond, .slice wa x.ways.length wc] 202)).drew = W at *
      generalize wr.heap.size = L at *
      generalize put own' L 7 = own1 at *
      clear hcl hcl2
      have b0 := hB1.cell 0
      have b1 := hB1.cell 1
      have b4 := hB1.cell 4
      simp at b0 b1 b4
      have hLlt := hB1.lt
      have hL1 : L < W.heap.size + 1 := by omega
      obtain ⟨sa, sc, rfl⟩ := hSt1.form
      obtain ⟨ga, gc, rfl⟩ := hGu1.form
      obtain ⟨j1, hj10, hq0, hq1, hq2⟩ := info_parts Tryz.infoInt
      cases hgd : x.guard with
      | true =>
        rw [hgd] at b1
        have HFx : Hid ((row.take (k + 1)).foldl (pathStep σ.parts) ([], [], -1) = (ss, sg ++ [j], if ss.length = 0 then minW sw x.pos else sw)) := HF.out.trans (pathStep_guard HX.out hgd)
        clear HF hgd
        obtain ⟨hrowg, hcolg⟩ := hGu1
        have hgl := hbd.2
        by_cases hs0 : ss.length = 0
        · have hs0' : ((ss.length : Int) == 0) = true := by simp [hs0]
          rw [if_pos hs0] at HFx
          by_cases hw0 : sw < 0
          · have HM : Hid (minW sw x.pos = x.pos) := by show _ = _; unfold minW; rw [if_pos (.inl hw0)]
            rw [HM.out] at HFx
            clear hs0
            go_wp2_with (first
              | (at_builtin; refine wpList_append_lies _ rfl _ _ 48 rfl 0 3 j1 _ 1 8 Tryz.underlying48 hj10 hq0 hq1 hq2 rfl (by decide) _ sg.length (sg.map fun n : Nat => Value.int .i64 (n : Int)) (by rfl) (hrowg.alloc _) ⟨W.heap.size, 0, none⟩ 1 1 [.int .i64 j] (by rfl) rfl (World.news_of_block (alloc_at _ _ _ (by simp))) (by simp [Value.oneCell']) (by decide) (by unfold maxLen; omega) (by omega) (Nat.zero_le _) (W.heap.size + 1) (by simp) ?_; intro g2 cap2 w6 hown2 hgrow2 hat2 hlt2; obtain ⟨hPI, hk6⟩ := PI.guard hW1 hI1 hSt1 hrowg hcolg hown2 hgrow2 hat2; have hb0' : w6.cell? ⟨L, 0, none⟩ = some (.int .i64 x.pos) := (cell_eq (hk6.2 L hLlt hc1).2 _).trans b0; clear hown2 hgrow2 hat2 hk6))
            refine ⟨⟨k + 1, by omega, by go_num, by rw [HFx.out], by rw [HFx.out]; exact hPI⟩, by simp [intOf]; omega⟩
          · have hw0' : 0 ≤ sw := by omega
            by_cases hpw : x.pos < sw
            · have HM : Hid (minW sw x.pos = x.pos) := by show _ = _; unfold minW; rw [if_pos (.inr hpw)]
              rw [HM.out] at HFx
              clear hs0 hw0
              go_wp2_with (first
                | (at_builtin; refine wpList_append_lies _ rfl _ _ 48 rfl 0 3 j1 _ 1 8 Tryz.underlying48 hj10 hq0 hq1 hq2 rfl (by decide) _ sg.length (sg.map fun n : Nat => Value.int .i64 (n : Int)) (by rfl) (hrowg.alloc _) ⟨W.heap.size, 0, none⟩ 1 1 [.int .i64 j] (by rfl) rfl (World.news_of_block (alloc_at _ _ _ (by simp))) (by simp [Value.oneCell']) (by decide) (by unfold maxLen; omega) (by omega) (Nat.zero_le _) (W.heap.size + 1) (by simp) ?_; intro g2 cap2 w6 hown2 hgrow2 hat2 hlt2; obtain ⟨hPI, hk6⟩ := PI.guard hW1 hI1 hSt1 hrowg hcolg hown2 hgrow2 hat2; have hb0' : w6.cell? ⟨L, 0, none⟩ = some (.int .i64 x.pos) := (cell_eq (hk6.2 L hLlt hc1).2 _).trans b0; clear hown2 hgrow2 hat2 hk6))
              refine ⟨⟨k + 1, by omega, by go_num, by rw [HFx.out], by rw [HFx.out]; exact hPI⟩, by simp [intOf]; omega⟩
            · have hpw' : sw ≤ x.pos := by omega
              have HM : Hid (minW sw x.pos = sw) := by show _ = _; unfold minW; rw [if_neg (by omega)]
              rw [HM.out] at HFx
              clear hs0 hw0 hpw
              go_wp2_with (first
                | (at_builtin; refine wpList_append_lies _ rfl _ _ 48 rfl 0 3 j1 _ 1 8 Tryz.underlying48 hj10 hq0 hq1 hq2 rfl (by decide) _ sg.length (sg.map fun n : Nat => Value.int .i64 (n : Int)) (by rfl) (hrowg.alloc _) ⟨W.heap.size, 0, none⟩ 1 1 [.int .i64 j] (by rfl) rfl (World.news_of_block (alloc_at _ _ _ (by simp))) (by simp [Value.oneCell']) (by decide) (by unfold maxLen; omega) (by omega) (Nat.zero_le _) (W.heap.size + 1) (by simp) ?_; intro g2 cap2 w6 hown2 hgrow2 hat2 hlt2; obtain ⟨hPI, hk6⟩ := PI.guard hW1 hI1 hSt1 hrowg hcolg hown2 hgrow2 hat2; have hb0' : w6.cell? ⟨L, 0, none⟩ = some (.int .i64 x.pos) := (cell_eq (hk6.2 L hLlt hc1).2 _).trans b0; clear hown2 hgrow2 hat2 hk6))
              refine ⟨⟨k + 1, by omega, by go_num, by rw [HFx.out], by rw [HFx.out]; exact hPI⟩, by simp [intOf]; omega⟩
        · have hs0' : ((ss.length : Int) == 0) = false := by rw [beq_eq_false_iff_ne]; omega
          rw [if_neg hs0] at HFx
          clear hs0
          go_wp2_with (first
            | (at_builtin; refine wpList_append_lies _ rfl _ _ 48 rfl 0 3 j1 _ 1 8 Tryz.underlying48 hj10 hq0 hq1 hq2 rfl (by decide) _ sg.length (sg.map fun n : Nat => Value.int .i64 (n : Int)) (by rfl) (hrowg.alloc _) ⟨W.heap.size, 0, none⟩ 1 1 [.int .i64 j] (by rfl) rfl (World.news_of_block (alloc_at _ _ _ (by simp))) (by simp [Value.oneCell']) (by decide) (by unfold maxLen; omega) (by omega) (Nat.zero_le _) (W.heap.size + 1) (by simp) ?_; intro g2 cap2 w6 hown2 hgrow2 hat2 hlt2; obtain ⟨hPI, hk6⟩ := PI.guard hW1 hI1 hSt1 hrowg hcolg hown2 hgrow2 hat2; have hb0' : w6.cell? ⟨L, 0, none⟩ = some (.int .i64 x.pos) := (cell_eq (hk6.2 L hLlt hc1).2 _).trans b0; clear hown2 hgrow2 hat2 hk6))
          refine ⟨⟨k + 1, by omega, by go_num, by rw [HFx.out], by rw [HFx.out]; exact hPI⟩, by simp [intOf]; omega⟩
      | false =>
        rw [hgd] at b1
        have HFx : Hid ((row.take (k + 1)).foldl (pathStep σ.parts) ([], [], -1) = ((repF j x.times.toNat (ss, sg)).1, (repF j x.times.toNat (ss, sg)).2, sw)) := HF.out.trans (pathStep_step HX.out hgd)
        clear HF hgd
        obtain ⟨j2, hj20, hz0, hz1, hz2⟩ := info_parts Tryz.infoStep
        have ht1 := htx.1
        have ht2 := htx.2
        go_wp2_with fail
        go_loopw [6, 7, 11] (fun sv gv i wr2 => ∃ k2 : Nat, (k2 : Int) ≤ x.times ∧ i = .int .i64 k2 ∧ ∃ own2, WS own w b m σ own2 wr2 ∧ Ints own2 wr2 (.slice (some ⟨gl, 0, none⟩) row.length c) row ∧ StepC 9 own2 wr2 sv (repF j k2 (ss, sg)).1 w.heap.size ∧ IntC own2 wr2 gv (repF j k2 (ss, sg)).2 w.heap.size ∧ own2 L = 7 ∧ L < wr2.heap.size ∧ wr2.cell? ⟨L, 4, none⟩ = some (.int .i64 x.times) ∧ wr2.cell? ⟨gl, k, none⟩ = some (.int .i64 j)) (fun _ _ i _ => x.times.toNat - (intOf i).toNat)
        case atStart => exact ⟨0, by omega, rfl, own1, hW1, hI1, hSt1, hGu1, hc1, hLlt, b4, hcl1⟩
        case round =>
          obtain ⟨k2, hk2, rfl, own2, hW2, hI2, hS2, hG2, hcL, hL2, b42, hcl2⟩ := hrel
          clear hW1 hI1 hSt1 hGu1 hc1 hLlt hL1 b0 b1 b4 hcl1 hB1
          have hrl := repF_len j k2 (ss, sg)
          simp only at hrl
          by_cases hl2 : (k2 : Int) < x.times
          · have HR : Hid (repF j (k2 + 1) (ss, sg) = ((repF j k2 (ss, sg)).1 ++ [(j, (repF j k2 (ss, sg)).2)], [])) := rfl
            generalize repF j k2 (ss, sg) = q at *
            obtain ⟨qs, qg⟩ := q
            simp only at hrl hS2 hG2 HR
            obtain ⟨gvs, h1, hrows, hcols, h4⟩ := hS2
            have hone : (u7 : Value).oneCell' = true := by obtain ⟨_, _, e⟩ := hG2.form; rw [e]; rfl
            obtain ⟨qa, qc, eq⟩ : ∃ a c, u6 = .slice a qs.length c := by obtain ⟨a, c, e, _⟩ := row_at2 hrows; exact ⟨a, c, e⟩
            obtain ⟨ra, rc, er⟩ := hG2.form
            subst eq
            subst er
            have hL3 : L < wr.heap.size + 1 := by omega
            have htn : x.times.toNat ≤ 4 := by omega
            have hql : qs.length ≤ 400010 := by omega
            clear hbd hrl
            go_wp2_with (first
              | (at_builtin; refine wpList_append_lies _ rfl _ _ 128 rfl 0 204 j2 _ 2 32 Tryz.underlying128 hj20 hz0 hz1 hz2 rfl (by decide) _ qs.length (flat stCells (qs.zip gvs)) (by rfl) (hrows.alloc _) ⟨wr.heap.size, 0, none⟩ 1 1 [.int .i64 j, .slice ra qg.length rc] (by rfl) rfl (World.news_of_block (alloc_at _ _ _ (by simp))) (by simp [Value.oneCell']) (by decide) (by unfold maxLen; omega) (by omega) (Nat.zero_le _) (wr.heap.size + 1) (by simp) ?_; intro g2 cap2 w6 hown2 hgrow2 hat2 hlt2))
            obtain ⟨own6, hk6, hW6, hI6, hS6, hG6⟩ := PI.step hW2 hI2 h1 hrows hcols h4 hG2 hown2 hgrow2 hat2
            have hL6 : L < w6.heap.size := Nat.lt_of_lt_of_le hL2 hk6.1
            have b46 : w6.cell? ⟨L, 4, none⟩ = some (.int .i64 x.times) := (cell_eq (hk6.2 L hL2 hcL).2 _).trans b42
            have hcl6 : w6.cell? ⟨gl, k, none⟩ = some (.int .i64 j) := by
              have a := hI2.cellAt k hlt
              have b := hI6.cellAt k hlt
              rw [hcl2] at a
              rw [b, a]
            clear hown2 hgrow2 hat2
            first
            | (go_roundw
               case rel => exact ⟨k2 + 1, by omega, by go_num, own6, hW6, hI6, by rw [HR.out]; exact hS6, by rw [HR.out]; exact hG6, (hk6.2 L hL2 hcL).1, hL6, b46, hcl6⟩
               case measure => simp [intOf]; omega)
            | (refine ⟨⟨k2 + 1, by omega, by go_num, own6, hW6, hI6, by rw [HR.out]; exact hS6, by rw [HR.out]; exact hG6, (hk6.2 L hL2 hcL).1, hL6, b46, hcl6⟩, by simp [intOf]; omega⟩)
          · have e : (k2 : Int) = x.times := by omega
            have e2 : x.times.toNat = k2 := by omega
            rw [e2] at HFx
            have hPI : PI own w b m σ (.slice (some ⟨gl, 0, none⟩) row.length c) row u6 u7 (repF j k2 (ss, sg)) wr := ⟨own2, hW2, hI2, hS2, hG2⟩
            clear hW2 hI2 hS2 hG2 e2 hrl hbd
            generalize repF j k2 (ss, sg) = q at *
            go_wp2_with fail
            first
            | (go_roundw
               case rel => exact ⟨k + 1, by omega, by go_num, by rw [HFx.out], by rw [HFx.out]; exact hPI⟩
               case measure => simp [intOf]; omega)
            | (refine ⟨⟨k + 1, by omega, by go_num, by rw [HFx.out], by rw [HFx.out]; exact hPI⟩, by simp [intOf]; omega⟩)
    · have e : k = row.length := by omega
      subst e
      rw [List.take_length] at hSt hGu hbd ⊢
      have HF : Hid (pathF σ.parts row = ((row.foldl (pathStep σ.parts) ([], [], -1)).1, (row.foldl (pathStep σ.parts) ([], [], -1)).2.1.foldl (tailW σ.parts) (row.foldl (pathStep σ.parts) ([], [], -1)).2.2)) := rfl
      have hin := guards_in σ.parts row
      generalize row.foldl (pathStep σ.parts) ([], [], -1) = s at *
      obtain ⟨ss, sg, sw⟩ := s
      simp only at hSt hGu hbd HF hin ⊢
      have hgl := hbd.2
      obtain ⟨gva, gvc, rfl⟩ := hGu.form
      have hgi : ∀ j ∈ sg, ∃ x, σ.parts[j]? = some x := fun j hj => hrow j (hin j hj)
      clear hin hbd
      go_wp2_with fail
      go_loopw [8, 12] (fun wv i wr3 => ∃ k3 : Nat, k3 ≤ sg.length ∧ i = .int .i64 k3 ∧ wv = .int .i64 ((sg.take k3).foldl (tailW σ.parts) sw) ∧ ∃ own3, WS own w b m σ own3 wr3 ∧ StepC 9 own3 wr3 u6 ss w.heap.size ∧ IntC own3 wr3 (.slice gva sg.length gvc) sg w.heap.size) (fun _ i _ => sg.length - (intOf i).toNat)
      case atStart => exact ⟨0, Nat.zero_le _, rfl, rfl, own', hW, hSt, hGu⟩
      case round =>
        obtain ⟨k3, hk3, rfl, rfl, own3, hW3, hS3, hG3⟩ := hrel
        clear hW hI hSt hGu
        by_cases hl3 : k3 < sg.length
        · obtain ⟨ga, gc, eg, hgc⟩ := row_at2 hG3.1
          simp only [Value.slice.injEq] at eg
          obtain ⟨rfl, _, rfl⟩ := eg
          obtain ⟨gg, rfl, hgg, hgcell⟩ := hgc (by omega)
          have hcg : wr.cell? ⟨gg, k3, none⟩ = some (.int .i64 (sg[k3] : Nat)) := hgcell k3 _ (by simp [hl3])
          obtain ⟨x, hx⟩ := hgi sg[k3] (List.getElem_mem _)
          have HT : Hid ((sg.take (k3 + 1)).foldl (tailW σ.parts) sw = minW ((sg.take k3).foldl (tailW σ.parts) sw) x.pos) := by
            show _ = _; rw [foldl_take_succ _ _ _ _ hl3]; unfold tailW; rw [hx]
          generalize (sg.take k3).foldl (tailW σ.parts) sw = wc at *
          generalize sg[k3] = j at *
          obtain ⟨g, cap, wv, hv, hjl, hway, c0, c1, c2, c3, c4, c5, c6⟩ := hW3.st.part_at hx
          have d9 := hW3.st.cell 9
          simp [PCells] at d9
          rw [hv] at d9
          have hbl := hW3.st.blk.lt
          have hj0 : (0 : Int) ≤ (j : Int) := by omega
          have hj1 : (j : Int) < (σ.parts.length : Int) := by omega
          have hk0 : (0 : Int) ≤ (k3 : Int) := by omega
          have hk1 : (k3 : Int) < (sg.length : Int) := by omega
          have hEnd : ∀ n, ∃ own3, WS own w b m σ own3 (wr.drewN n) ∧ StepC 9 own3 (wr.drewN n) u6 ss w.heap.size ∧ IntC own3 (wr.drewN n) (.slice (some ⟨gg, 0, none⟩) sg.length gvc) sg w.heap.size := fun n => by
            obtain ⟨hW4, hK4⟩ := hW3.keep (grownBy_drewN wr n none)
            exact ⟨own3, hW4, hS3.keep hK4 (fun k _ => ⟨rfl, rfl⟩), hG3.keep (fun k _ => ⟨rfl, rfl⟩)⟩
          have HEnd : Hid (∀ n, ∃ own3, WS own w b m σ own3 (wr.drewN n) ∧ StepC 9 own3 (wr.drewN n) u6 ss w.heap.size ∧ IntC own3 (wr.drewN n) (.slice (some ⟨gg, 0, none⟩) sg.length gvc) sg w.heap.size) := hEnd
          clear hEnd hW3 hS3 hG3 hgc hgcell hx hv hway c1 c2 c3 c4 c5 c6
          by_cases hw0 : wc < 0
          · have HM : Hid (minW wc x.pos = x.pos) := by show _ = _; unfold minW; rw [if_pos (.inl hw0)]
            go_wp2
            go_quiet (fail)
            go_wp2
            go_roundw
            case rel => exact ⟨k3 + 1, by omega, by go_num, by rw [HT.out, HM.out], HEnd.out _⟩
            case measure => simp [intOf]; omega
          · have hw0' : 0 ≤ wc := by omega
            by_cases hpw : x.pos < wc
            · have HM : Hid (minW wc x.pos = x.pos) := by show _ = _; unfold minW; rw [if_pos (.inr hpw)]
              clear hw0
              go_wp2
              go_quiet (fail)
              go_wp2
              go_roundw
              case rel => exact ⟨k3 + 1, by omega, by go_num, by rw [HT.out, HM.out], HEnd.out _⟩
              case measure => simp [intOf]; omega
            · have hpw' : wc ≤ x.pos := by omega
              have HM : Hid (minW wc x.pos = wc) := by show _ = _; unfold minW; rw [if_neg (by omega)]
              clear hw0 hpw
              go_wp2
              go_quiet (fail)
              go_wp2
              go_roundw
              case rel => exact ⟨k3 + 1, by omega, by go_num, by rw [HT.out, HM.out], HEnd.out _⟩
              case measure => simp [intOf]; omega
        · have e : k3 = sg.length := by omega
          subst e
          rw [List.take_length]
          obtain ⟨own5, hW5, hK5, hS5⟩ := StepC.done hW3 hS3
          have HA : Hid (St own5 wr b m σ ∧ Ext own w own5 wr ∧ StepC 7 own5 wr u6 ss w.heap.size) := ⟨hW5.st, hW5.ext, hS5⟩
          clear hW3 hS3 hG3 hW5 hK5 hS5
          go_wp2
          refine bodyPost_ret (v := .tuple #[u6, .int .i64 (sg.foldl (tailW σ.parts) sw)]) (by simp [results, Tryz.results60, go_sem]) rfl ⟨u6, own5, ?_, HA.out.1, HA.out.2.1, ?_⟩
          · rw [HF.out]
          · rw [HF.out]; exact HA.out.2.2
end Go.Proofs.YtddbjcfdmdbmkaaGreatDoor

/-
  The document's check: memory, and what it reckons.
-/
namespace Go.Proofs.YtddbjcfdmdbmkaaGreatDoor
open Go.RowKit

theorem StepC.k7 {own own' : Nat → Nat} {w w' : World} {v : Value} {es : List (Nat × List Nat)} {lo : Nat} (h : StepC 7 own w v es lo) (hk : K7 own w own' w') : StepC 7 own' w' v es lo := by
  obtain ⟨gvs, h1, h2, h3, h4⟩ := h
  exact ⟨gvs, h1, row_of_blk h2 fun g hg => (hk.2 g (h2.lt g hg).2 (h3 g hg).1).2, fun g hg => ⟨(hk.2 g (h2.lt g hg).2 (h3 g hg).1).1, (h3 g hg).2⟩, fun i x y => (h4 i x y).k7 hk⟩
/-- names that are being gathered, of colour 11 -/
def StrC (own : Nat → Nat) (w : World) (v : Value) (l : List ByteArray) (lo : Nat) : Prop := w.ownsRow 0 9 1 v l.length (l.map Value.string) ∧ ∀ g, v.ownBlock = some g → own g = 11 ∧ lo ≤ g
theorem StrC.nil (own : Nat → Nat) (w : World) (lo : Nat) : StrC own w (.slice none 0 0) [] lo := ⟨World.ownsRow_nil _ _ _ _, fun g hg => by simp [Value.ownBlock] at hg⟩
theorem StrC.strs {own : Nat → Nat} {w : World} {v : Value} {l : List ByteArray} {lo : Nat} (h : StrC own w v l lo) : Strs own w v l := ⟨h.1, fun g hg => by rw [(h.2 g hg).1]; decide⟩
theorem StrC.ext {own own' : Nat → Nat} {w w' : World} {v : Value} {l : List ByteArray} {lo : Nat} (h : StrC own w v l lo) (hE : Ext own w own' w') : StrC own' w' v l lo :=
  ⟨row_ext h.1 (fun g hg => by rw [(h.2 g hg).1]; decide) hE, fun g hg => ⟨(hE.same g (h.1.lt g hg).2).trans (h.2 g hg).1, (h.2 g hg).2⟩⟩
theorem StrC.keep {own own' : Nat → Nat} {w w' : World} {v : Value} {l : List ByteArray} {lo : Nat} (h : StrC own w v l lo) (hb : ∀ k, k < w.heap.size → own' k = own k ∧ w'.heap[k]? = w.heap[k]?) : StrC own' w' v l lo :=
  ⟨row_of_blk h.1 fun g hg => (hb g (h.1.lt g hg).2).2, fun g hg => ⟨((hb g (h.1.lt g hg).2).1).trans (h.2 g hg).1, (h.2 g hg).2⟩⟩
theorem StrC.form {own : Nat → Nat} {w : World} {v : Value} {l : List ByteArray} {lo : Nat} (h : StrC own w v l lo) : ∃ a cp, v = .slice a l.length cp := by
  obtain ⟨a, c, e, _⟩ := row_at2 h.1
  exact ⟨a, c, e⟩
/-- in check's loops -/
def CI (own : Nat → Nat) (w : World) (b : Nat) (m : PM) (σ : PSt) (lv : Value) (es : List (Nat × List Nat)) (lo : Nat) (kv : Value) (known : List ByteArray) (own' : Nat → Nat) (wr : World) : Prop :=
  WS own w b m σ own' wr ∧ StepC 7 own' wr lv es lo ∧ StrC own' wr kv known w.heap.size
theorem CI.ext {own own' own2 : Nat → Nat} {w wr w2 : World} {b : Nat} {m : PM} {σ : PSt} {lv kv : Value} {es : List (Nat × List Nat)} {lo : Nat} {known : List ByteArray} (h : CI own w b m σ lv es lo kv known own' wr) (hS : St own2 w2 b m σ) (hE : Ext own' wr own2 w2) : CI own w b m σ lv es lo kv known own2 w2 :=
  ⟨⟨hS, h.1.ext.trans hE⟩, h.2.1.k7 hE.k7, h.2.2.ext hE⟩
theorem CI.new {own own' : Nat → Nat} {w wr w2 : World} {b : Nat} {m : PM} {σ : PSt} {lv kv : Value} {es : List (Nat × List Nat)} {lo : Nat} {known : List ByteArray} (h : CI own w b m σ lv es lo kv known own' wr) (hg : wr.grownBy w2 none) {g : Nat} (hgn : wr.heap.size ≤ g) (c : Nat) : CI own w b m σ lv es lo kv known (put own' g c) w2 ∧ K7 own' wr (put own' g c) w2 := by
  obtain ⟨a, k⟩ := h.1.new hg hgn c
  exact ⟨⟨a, h.2.1.k7 k, h.2.2.keep (fun z hz => ⟨put_other _ _ _ _ (by omega), hg.block z hz (by simp)⟩)⟩, k⟩
theorem CI.keep {own own' : Nat → Nat} {w wr w2 : World} {b : Nat} {m : PM} {σ : PSt} {lv kv : Value} {es : List (Nat × List Nat)} {lo : Nat} {known : List ByteArray} (h : CI own w b m σ lv es lo kv known own' wr) (hg : wr.grownBy w2 none) : CI own w b m σ lv es lo kv known own' w2 ∧ K7 own' wr own' w2 := by
  obtain ⟨a, k⟩ := h.1.keep hg
  exact ⟨⟨a, h.2.1.k7 k, h.2.2.keep (fun z hz => ⟨rfl, hg.block z hz (by simp)⟩)⟩, k⟩
/-- a name more -/
theorem CI.app {own own' : Nat → Nat} {w wr w6 : World} {b : Nat} {m : PM} {σ : PSt} {lv kv : Value} {es : List (Nat × List Nat)} {lo : Nat} {known : List ByteArray} (h : CI own w b m σ lv es lo kv known own' wr) {o : Obj} {nm : ByteArray} {g2 cap2 : Nat}
    (hown : w6.ownsRow 0 9 1 (.slice (some ⟨g2, 0, none⟩) (known.length + 1) cap2) (known.length + 1) (known.map Value.string ++ [.string nm])) (hgrow : (wr.alloc o).grownBy w6 kv.ownBlock) (hat : kv.ownBlock = some g2 ∨ g2 = wr.heap.size + 1) :
    CI own w b m σ lv es lo (.slice (some ⟨g2, 0, none⟩) (known.length + 1) cap2) (known ++ [nm]) (put own' g2 11) w6 ∧ K7 own' wr (put own' g2 11) w6 := by
  obtain ⟨h2, hK2⟩ := h.keep (World.grownBy_alloc wr o none)
  have hat' : kv.ownBlock = some g2 ∨ g2 = (wr.alloc o).heap.size := by rw [alloc_size]; exact hat
  obtain ⟨hW3, hK3, hgw⟩ := h2.1.appC 11 (by decide) h2.2.2.2 hgrow hat'
  exact ⟨⟨hW3, h2.2.1.k7 hK3, by simpa using hown, fun k e => by cases e; exact ⟨put_same _ _ _, hgw⟩⟩, hK2.trans hK3⟩
/-- names, at a condition that is one, or none. -/
def CondOK (nodes : List RNode) (c : Int) : Prop := c = -1 ∨ ∃ (k : Nat) (t : Nd), c = k ∧ Rep nodes k t
/-- up to a step -/
noncomputable def chk (nodes : List RNode) (parts : List RPart) (es : List (Nat × List Nat)) : Nat → Int × Nat
  | 0 => (-1, 0)
  | i + 1 => (candS nodes parts ((es.take i).map (·.1)) (es.getD i (0, []))).foldl upd (chk nodes parts es i)
theorem chk_all (nodes : List RNode) (parts : List RPart) (es : List (Nat × List Nat)) : chk nodes parts es es.length = checkF nodes parts es := by
  have H : ∀ (r p : List (Nat × List Nat)), chk nodes parts (p ++ r) (p ++ r).length = (cands nodes parts (p.map (·.1)) r).foldl upd (chk nodes parts (p ++ r) p.length) := by
    intro r
    induction r with
    | nil => intro p; rw [List.append_nil]; rfl
    | cons e r ih =>
      intro p
      have h1 := ih (p ++ [e])
      rw [List.append_assoc, List.singleton_append] at h1
      rw [h1]
      show _ = (candS nodes parts (p.map (·.1)) e ++ cands nodes parts (p.map (·.1) ++ [e.1]) r).foldl upd _
      rw [List.foldl_append, List.map_append]
      congr 1
      rw [List.length_append]
      show (candS nodes parts (((p ++ e :: r).take p.length).map (·.1)) ((p ++ e :: r).getD p.length (0, []))).foldl upd _ = _
      rw [List.take_left, List.getD_eq_getElem?_getD, List.getElem?_append_right (Nat.le_refl _)]
      simp
  have := H es []
  simpa [checkF, chk] using this
theorem upd_yes {a : Int × Nat} {v : Int} {k : Nat} (h0 : 0 ≤ v) (h : a.1 < 0 ∨ v < a.1) : upd a (v, k) = (v, k) := by unfold upd; rw [if_pos ⟨h0, h⟩]
theorem upd_no {a : Int × Nat} {v : Int} {k : Nat} (h : ¬ (0 ≤ v ∧ (a.1 < 0 ∨ v < a.1))) : upd a (v, k) = a := by unfold upd; rw [if_neg h]
theorem map_foldl_take_succ {α : Type} (f : α → Int × Nat) (l : List α) (a : Int × Nat) (k : Nat) (h : k < l.length) : ((l.take (k + 1)).map f).foldl upd a = upd (((l.take k).map f).foldl upd a) (f l[k]) := by
  rw [List.take_succ_eq_append_getElem h, List.map_append, List.foldl_append]; rfl
theorem names_unk {σ : PSt} {c : Int} {known : List ByteArray} (hc : CondOK σ.nodes c) (hlen : σ.nodes.length ≤ 100000) (hkl : known.length ≤ 100000) (own : Nat → Nat) (w : World) (b : Nat) (m : PM) (kv : Value) (h : St own w b m σ) (hk : Strs own w kv known) :
    Calls Tryz.prog 98 #[.pointer (some ⟨b, 0, none⟩), .int .i64 c, kv] w fun e w' => e = .returned (.int .i64 (unkU σ.nodes c known)) ∧ AfterM own w b m σ w' := by
  rcases hc with rfl | ⟨k, t, rfl, hr⟩
  · refine (names_none w b (-1) (by omega) kv).mono ?_
    rintro e w' ⟨rfl, rfl⟩
    exact ⟨by unfold unkU; rw [if_pos (by omega)], own, h, Ext.refl _ _⟩
  · refine (names_any hlen hkl hr own w b m kv h hk).mono ?_
    rintro e w' ⟨rfl, hA⟩
    exact ⟨by unfold unkU; rw [if_neg (by omega), treeOf_eq hr], hA⟩
end Go.Proofs.YtddbjcfdmdbmkaaGreatDoor
