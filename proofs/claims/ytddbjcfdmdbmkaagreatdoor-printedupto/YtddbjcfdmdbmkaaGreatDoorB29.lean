import Derived.Test.YtddbjcfdmdbmkaaGreatDoorB28
import Derived.Test.YtddbjcfdmdbmkaaGreatDoorB26
import Derived.Test.YtddbjcfdmdbmkaaGreatDoorB09
import Derived.Test.YtddbjcfdmdbmkaaGreatDoorB01
set_option linter.unusedVariables false
set_option linter.unusedSimpArgs false
namespace Go.Proofs.YtddbjcfdmdbmkaaGreatDoor
open Go.RowKit Go.Sort

theorem putRow_other {α : Type} [Inhabited α] (enc : α → Value) (w : World) (blk off : Nat) (d : Array α) (b : Nat) (h : b ≠ blk) : (putRow enc w blk off d).heap[b]? = w.heap[b]? := by
  unfold putRow mapBlock
  rw [Array.getElem?_modify, if_neg (fun e => h e.symm)]
theorem putRow_same {α : Type} [Inhabited α] (enc : α → Value) (w : World) (blk off : Nat) (d : Array α) {c : Array Value} {e : TypeId} {fr : Nat × Nat} (h : w.heap[blk]? = some (.cells c e fr)) : (putRow enc w blk off d).heap[blk]? = some (.cells (putCells enc off d c) e fr) := by
  unfold putRow mapBlock
  rw [Array.getElem?_modify, if_pos rfl, h]; rfl
theorem putRow_grown {α : Type} [Inhabited α] (enc : α → Value) (w : World) (n blk off : Nat) (d : Array α) : w.grownBy (putRow enc (Sort.ahead w n) blk off d) (some blk) :=
  ⟨rfl, rfl, rfl, by simp, fun b _ hne => (putRow_other enc (Sort.ahead w n) blk off d b (fun e => hne (by rw [e])))⟩
theorem row_put {α : Type} [Inhabited α] {enc : α → Value} {w : World} {base e g n cap m q : Nat} {xs : List Value} (h : w.ownsRow base e 1 (.slice (some ⟨g, 0, none⟩) n cap) n xs) (d : Array α) (hd : d.size ≤ n) (hm : m ≤ d.size) : (putRow enc (Sort.ahead w q) g 0 d).ownsRow base e 1 (.slice (some ⟨g, 0, none⟩) m cap) m ((d.toList.take m).map enc) := by
  obtain ⟨h1, h2⟩ := h
  rcases h2 with ⟨h, _⟩ | ⟨g', cap', cur, he, hb, hg, hn, hcm, hcs, htake⟩
  · cases h
  · cases he
    refine ⟨by simp; omega, .inr ⟨g, cap, putCells enc 0 d cur, rfl, hb, putRow_same enc (Sort.ahead w q) g 0 d hg, by omega, hcm, by simp [putCells, hcs], ?_⟩⟩
    apply List.ext_getElem?
    intro i
    rw [Nat.mul_one]
    by_cases hi : i < m
    · have hic : i < cur.size := by omega
      have hid : i < d.size := by omega
      rw [List.getElem?_take_of_lt hi, List.getElem?_map, List.getElem?_take_of_lt hi]
      simp [putCells, hic, hid]
    · rw [List.getElem?_eq_none (by simp; omega), List.getElem?_eq_none (by simp; omega)]
theorem delInt_p {w : World} {g cap j : Nat} {ts : List Int} (h : w.ownsRow 0 3 1 (.slice (some ⟨g, 0, none⟩) ts.length cap) ts.length (ts.map (Value.int .i64))) (hj : j ≤ ts.length) :
    Calls Tryz.prog 106 #[.slice (some ⟨g, 0, none⟩) ts.length cap, .int .i64 0, .int .i64 j] w fun e w' => e = .returned (.slice (some ⟨g, 0, none⟩) (ts.length - j) cap) ∧ w'.ownsRow 0 3 1 (.slice (some ⟨g, 0, none⟩) (ts.length - j) cap) (ts.drop j).length ((ts.drop j).map (Value.int .i64)) ∧ w.grownBy w' (some g) := by
  obtain ⟨cur, hB, hcs, hnc, hcm⟩ : ∃ cur, Blk w g cur 3 ∧ cur.size = cap * 1 ∧ ts.length ≤ cap ∧ cap ≤ 9223372036854775807 := by
    rcases h.2 with ⟨e, _⟩ | ⟨g', cap', cur, he, _, hgg, hn, hcm, hcs, _⟩
    · cases e
    · cases he; exact ⟨cur, hgg, hcs, hn, hcm⟩
  have hH : Holds (Value.int .i64) w g 0 ts.toArray := by
    intro k hk
    have hk' : k < ts.length := by simpa using hk
    refine ⟨?_, by rw [Nat.zero_add]; exact hB.frozen k⟩
    have := h.cells (g := g) rfl k (.int .i64 ts[k]) (by rw [List.getElem?_map, List.getElem?_eq_getElem hk']; rfl)
    rw [addr_add] at this
    rw [this]
    simp [hk']
  have hc := Any.slices_Delete_int Tryz.delInt g 0 cap 0 j ts w hH hnc hcm (Nat.zero_le _) hj
  refine Calls.mono (show Calls Tryz.prog 106 #[.slice (some ⟨g, 0, none⟩) ts.length cap, .int .i64 0, .int .i64 j] w _ from hc) ?_
  rintro e w' ⟨rfl, q, rfl⟩
  refine ⟨by simp, ?_, putRow_grown _ _ _ _ _ _⟩
  have := row_put (enc := Value.int .i64) (q := q) (m := ts.length - j) h (ts.take 0 ++ ts.drop j ++ List.replicate (j - 0) 0).toArray (by simp <;> omega) (by simp <;> omega)
  rw [List.length_drop]
  have e2 : (ts.take 0 ++ ts.drop j ++ List.replicate (j - 0) 0).toArray.toList.take (ts.length - j) = ts.drop j := by
    simp only [List.take_zero, List.nil_append]
    rw [List.take_append_of_le_length (by simp)]
    exact List.take_of_length_le (by simp)
  rw [e2] at this
  exact this
set_option maxRecDepth 100000 in
set_option maxHeartbeats 800000 in
theorem delNil_p (w : World) : Calls Tryz.prog 106 #[.slice none 0 0, .int .i64 0, .int .i64 0] w fun e w' => e = .returned (.slice none 0 0) ∧ w' = w := by
  go_enter Tryz.func106, Tryz.ntmps106
  go_wp2
  go_ret
  exact ⟨rfl, rfl⟩
theorem delT_p {w : World} {tv : Value} {j : Nat} {ts : List Int} (h : w.ownsRow 0 3 1 tv ts.length (ts.map (Value.int .i64))) (hj : j ≤ ts.length) :
    Calls Tryz.prog 106 #[tv, .int .i64 0, .int .i64 j] w fun e w' => ∃ a n c, e = .returned (.slice a n c) ∧ w'.ownsRow 0 3 1 (.slice a n c) (ts.drop j).length ((ts.drop j).map (Value.int .i64)) ∧ w.grownBy w' tv.ownBlock ∧ (Value.slice a n c).ownBlock = tv.ownBlock := by
  rcases h.2 with ⟨rfl, h0⟩ | ⟨g, cap, cur, rfl, _⟩
  · have e : ts = [] := List.length_eq_zero_iff.1 h0
    subst e
    have hj0 : j = 0 := by simpa using hj
    subst hj0
    refine (delNil_p w).mono ?_
    rintro e w' ⟨rfl, rfl⟩
    exact ⟨none, 0, 0, rfl, World.ownsRow_nil _ _ _ _, ⟨rfl, rfl, rfl, Nat.le_refl _, fun _ _ _ => rfl⟩, rfl⟩
  · refine (delInt_p h hj).mono ?_
    rintro e w' ⟨rfl, h1, h2⟩
    exact ⟨_, _, _, rfl, h1, h2, rfl⟩
end Go.Proofs.YtddbjcfdmdbmkaaGreatDoor

namespace Go.Proofs.YtddbjcfdmdbmkaaGreatDoor
open Go.RowKit

theorem HeapX.field {F : Nat → Prop} {w w' : World} {X : Nat} {x0 x1 x2 x3 x4 y0 y1 y2 y3 y4 rv : Value} {rs : List MRun} {tm : MRun → Int} {M : Nat → Prop} (h : HeapX F w X x0 x1 x2 x3 x4 rv rs tm) (hb : Blk w' X #[y0, y1, y2, y3, y4, rv] 110) (hc : Chg M w w') (hM : ∀ b, M b → ¬ F b) (hr : ∀ g, rv.ownBlock = some g → ¬ M g) : HeapX F w' X y0 y1 y2 y3 y4 rv rs tm :=
  ⟨hb, row_of_blk h.row fun g hg => hc.at g (h.row.lt g hg).2 (hr g hg), fun b hb => Nat.lt_of_lt_of_le (h.fl b hb) hc.size, h.nX, h.nR, HeapX.first_to h.first hc hM, h.sv⟩
def lenAt (X : Nat) (w : World) : Nat := match w.cell? ⟨X, 5, none⟩ with | some (.slice _ n _) => n | _ => 0
theorem HeapX.lenAt {F : Nat → Prop} {w : World} {X : Nat} {x0 x1 x2 x3 x4 rv : Value} {rs : List MRun} {tm : MRun → Int} (h : HeapX F w X x0 x1 x2 x3 x4 rv rs tm) : lenAt X w = rs.length := by
  have c := h.xb.cell 5
  simp at c
  unfold Go.Proofs.YtddbjcfdmdbmkaaGreatDoor.lenAt
  rcases h.open with ⟨e1, e2⟩ | ⟨g, cap, e1, _⟩
  · rw [c, e1, e2]; rfl
  · rw [c, e1]
set_option maxRecDepth 100000 in
set_option maxHeartbeats 3200000 in
theorem forget_p {F : Nat → Prop} {w : World} {X : Nat} {win now : Int} {x1 x2 x3 tv rv : Value} {rs : List MRun} {tm : MRun → Int} {ts : List Int} (h : HeapY F w X (.int .i64 win) x1 x2 x3 tv rv rs tm) (ht : w.ownsRow 0 3 1 tv ts.length (ts.map (Value.int .i64))) (nT : ∀ g, tv.ownBlock = some g → ¬ F g) (hl : ts.length ≤ 1000000) (hrl : rs.length ≤ 1000000) (hle : ∀ t ∈ ts, t ≤ now ∧ In64 t) (hrt : ∀ r ∈ rs, tm r ≤ now ∧ In64 (tm r)) (hn : In64 now) (hw : 0 ≤ win ∧ win ≤ 1000000) :
    Calls Tryz.prog 72 #[.pointer (some ⟨X, 0, none⟩), .int .i64 now] w fun e w' => e = .returned (.tuple #[]) ∧ ∃ a n c rv' rs', HeapY F w' X (.int .i64 win) x1 x2 x3 (.slice a n c) rv' rs' tm ∧ w'.ownsRow 0 3 1 (.slice a n c) (ts.drop (passedP win now ts)).length ((ts.drop (passedP win now ts)).map (Value.int .i64)) ∧ rs'.Perm (rs.filter fun r => decide (now - tm r < win)) ∧ Chg (fun b => b = X ∨ tv.ownBlock = some b ∨ rv.ownBlock = some b) w w' ∧ (Value.slice a n c).ownBlock = tv.ownBlock ∧ rv'.ownBlock = rv.ownBlock := by
  have hX := h.xb
  have hpl := passedP_le win now ts
  have hP : ∀ W, W.heap = w.heap → Calls Tryz.prog 71 #[.pointer (some ⟨X, 0, none⟩), .int .i64 now] W fun e w' => e = .returned (.int .i64 (passedP win now ts)) ∧ w' = W := fun W hW => by
    refine passed_p (hX.of_eq (by rw [hW])) (row_of_blk ht (fun g _ => by rw [hW])) hl hle hn hw
  have hD : ∀ W, W.heap = w.heap → W.os = w.os → W.tape = w.tape → W.output = w.output → Calls Tryz.prog 106 #[tv, .int .i64 0, .int .i64 (passedP win now ts)] W fun e w' => ∃ a n c, e = .returned (.slice a n c) ∧ w'.ownsRow 0 3 1 (.slice a n c) (ts.drop (passedP win now ts)).length ((ts.drop (passedP win now ts)).map (Value.int .i64)) ∧ w.grownBy w' tv.ownBlock ∧ (Value.slice a n c).ownBlock = tv.ownBlock := fun W hW h1 h2 h3 => by
    refine (delT_p (row_of_blk ht (w' := W) (fun g _ => by rw [hW])) hpl).mono ?_
    rintro e w' ⟨a, n, c, rfl, k1, k2, k3⟩
    exact ⟨a, n, c, rfl, k1, ⟨k2.os.trans h1, k2.tape.trans h2, k2.output.trans h3, by rw [← hW]; exact k2.size, fun b hb hne => by rw [← hW]; exact k2.block b (by rw [hW]; exact hb) hne⟩, k3⟩
  have hTX : tv.ownBlock ≠ some X := blk_apart hX ht (by decide)
  have hTR := rows_apart ht h.row (by decide)
  have hXF := h.nX
  obtain ⟨ta, tb, tc, etv⟩ := row_form ht
  subst etv
  have c4 := hX.cell 4; have hXl := hX.lt
  simp at c4
  generalize hts2 : ts.drop (passedP win now ts) = ts2 at *
  generalize passedP win now ts = pd at *
  go_enter Tryz.func72, Tryz.ntmps72
  go_upto_region 0 with fail
  go_region_law (first
    | (go_simp; refine (hD _ (by rfl) (by rfl) (by rfl) (by rfl)).mono ?_; rintro e w5 ⟨a5, n5, c5, rfl, ht5, hg5, ho5⟩; have hX5 := hX.of_eq (hg5.block X hXl (fun e => hTX e.symm)); have u4 := hX5.cell 4; have uf4 := hX5.frozen 4; have hXl5 := hX5.lt; simp at u4; show _; dsimp only)
    | (go_simp; refine (hP _ (by rfl)).mono ?_; rintro e w4 ⟨rfl, rfl⟩; show _; dsimp only))
  all_goals
    have hX6 : Blk (w5.setCell ⟨X, 4, none⟩ (.slice a5 n5 c5)) X #[.int .i64 win, x1, x2, x3, .slice a5 n5 c5, rv] 110 := by simpa using hX5.set 4 (.slice a5 n5 c5)
    have hc6 : Chg (fun b => b = X ∨ (Value.slice ta tb tc).ownBlock = some b) w (w5.setCell ⟨X, 4, none⟩ (.slice a5 n5 c5)) := ((Chg.grown hg5).mono (M' := fun b => b = X ∨ (Value.slice ta tb tc).ownBlock = some b) (fun b _ e => .inr e)).setCell (p := ⟨X, 4, none⟩) (.inl (.inl rfl)) _
    have hY6 : HeapY F (w5.setCell ⟨X, 4, none⟩ (.slice a5 n5 c5)) X (.int .i64 win) x1 x2 x3 (.slice a5 n5 c5) rv rs tm := ⟨h.toHeapX.field hX6 hc6 (fun b hb => by rcases hb with rfl | hb; exact hXF; exact nT b hb) (fun g hg hb => by rcases hb with rfl | hb; exact h.toHeapX.ne g hg rfl; exact hTR g hb hg), h.heap⟩
    have ht6 : (w5.setCell ⟨X, 4, none⟩ (.slice a5 n5 c5)).ownsRow 0 3 1 (.slice a5 n5 c5) ts2.length (ts2.map (Value.int .i64)) := row_of_blk ht5 (fun g hg => Below.heap_setCell _ _ _ _ (fun e => by simp at e; subst e; exact blk_apart hX5 ht5 (by decide) hg))
    generalize w5.setCell ⟨X, 4, none⟩ (.slice a5 n5 c5) = W6 at *
    clear hX5 u4 uf4 hXl5 ht5 hg5 hX6
    have hEnd : ∀ (w' : World) (rv2 : Value) (rs2 old : List MRun), HeapY F w' X (.int .i64 win) x1 x2 x3 (.slice a5 n5 c5) rv2 rs2 tm → rs.Perm (old ++ rs2) → (∀ r ∈ old, win ≤ now - tm r) → (∀ r ∈ rs2, now - tm r < win) → Chg (fun b => b = X ∨ rv.ownBlock = some b) W6 w' → rv2.ownBlock = rv.ownBlock →
        ∃ a n c rv' rs', HeapY F w' X (.int .i64 win) x1 x2 x3 (.slice a n c) rv' rs' tm ∧ w'.ownsRow 0 3 1 (.slice a n c) ts2.length (ts2.map (Value.int .i64)) ∧ rs'.Perm (rs.filter fun r => decide (now - tm r < win)) ∧ Chg (fun b => b = X ∨ (Value.slice ta tb tc).ownBlock = some b ∨ rv.ownBlock = some b) w w' ∧ (Value.slice a n c).ownBlock = (Value.slice ta tb tc).ownBlock ∧ rv'.ownBlock = rv.ownBlock := by
      intro w' rv2 rs2 old k1 k2 k3 k4 k5 k6
      refine ⟨a5, n5, c5, rv2, rs2, k1, row_of_blk ht6 (fun g hg => k5.at g (ht6.lt g hg).2 (fun hm => ?_)), ?_, ?_, ho5, k6⟩
      · rcases hm with rfl | hm
        · exact hTX (ho5 ▸ hg)
        · exact hTR g (ho5 ▸ hg) hm
      · have f1 := k2.filter (fun r => decide (now - tm r < win))
        have g1 : old.filter (fun r => decide (now - tm r < win)) = [] := List.filter_eq_nil_iff.2 (fun r hr => by have := k3 r hr; simp; omega)
        have g2 : rs2.filter (fun r => decide (now - tm r < win)) = rs2 := List.filter_eq_self.2 (fun r hr => by simpa using k4 r hr)
        rw [List.filter_append, g1, g2, List.nil_append] at f1
        exact f1.symm
      · exact (hc6.mono (M' := fun b => b = X ∨ (Value.slice ta tb tc).ownBlock = some b ∨ rv.ownBlock = some b) (fun b _ e => by rcases e with e | e; exact .inl e; exact .inr (.inl e))).trans k5 (fun b _ e => by rcases e with e | e; exact .inl e; exact .inr (.inr e))
    have HE : Hid _ := hEnd
    have HRT : Hid (∀ r ∈ rs, tm r ≤ now ∧ In64 (tm r)) := hrt
    clear hEnd hc6 ht6 ho5 hX c4 hP hD h hle ht nT hXl hrt
    go_wp2
    go_loopw [] (fun wr => ∃ rv2 rs2 old, HeapY F wr X (.int .i64 win) x1 x2 x3 (.slice a5 n5 c5) rv2 rs2 tm ∧ rs.Perm (old ++ rs2) ∧ (∀ r ∈ old, win ≤ now - tm r) ∧ Chg (fun b => b = X ∨ rv.ownBlock = some b) W6 wr ∧ rv2.ownBlock = rv.ownBlock) (fun wr => lenAt X wr)
    case atStart => exact ⟨rv, rs, [], hY6, List.Perm.refl _, fun r hr => by simp at hr, Chg.refl _ _, rfl⟩
    case round =>
      obtain ⟨rv2, rs2, old, hY, hp, hold, hc, ho⟩ := hrel
      clear hY6
      have HP : Hid (rs.Perm (old ++ rs2)) := hp
      have HO : Hid (∀ r ∈ old, win ≤ now - tm r) := hold
      have HB : Hid (rv2.ownBlock = rv.ownBlock) := ho
      have hlen2 : rs2.length ≤ 1000000 := by have := hp.length_eq; rw [List.length_append] at this; omega
      clear hp hold ho
      have hXY := hY.xb
      have y5 := hXY.cell 5; have y0 := hXY.cell 0; have hYl := hXY.lt
      simp at y5 y0
      by_cases h0 : rs2.length = 0
      · obtain ⟨pa, pc, e2⟩ : ∃ a c, rv2 = .slice a 0 c := by
          rcases hY.toHeapX.open with ⟨e, _⟩ | ⟨g, cap, e, _⟩
          · exact ⟨_, _, e⟩
          · rw [h0] at e; exact ⟨_, _, e⟩
        have hend := HE.out wr rv2 rs2 old hY HP.out HO.out (fun r hr => by rw [List.length_eq_zero_iff.1 h0] at hr; simp at hr) hc HB.out
        rw [e2] at y5
        clear HE hY HB hXY
        go_wp2
        go_end0
        exact ⟨rfl, hend⟩
      · obtain ⟨g, cap, e2⟩ := hY.toHeapX.row_slice (by omega)
        obtain ⟨t, p, q1, q2, q3, q4, q5, q6, q7, q8⟩ := hY.first rs2[0] (List.getElem_mem (by omega))
        have hgr := hY.row
        rw [e2] at hgr y5
        obtain ⟨_, d1⟩ := run_cells hgr 0 (by omega)
        rw [q1] at d1
        simp at d1
        have hgl := (hgr.lt g rfl).2
        obtain ⟨r1, r2⟩ := HRT.out rs2[0] (HP.out.mem_iff.2 (List.mem_append.2 (.inr (List.getElem_mem _))))
        have hnear := isNear_p hYl y0 r1 r2 hn hw
        have htop : ∀ r ∈ rs2, tm rs2[0] ≤ tm r := by
          intro r hr
          obtain ⟨i, hi, rfl⟩ := List.getElem_of_mem hr
          have := heap_top tm hY.heap i hi
          unfold keyAt at this
          simpa [List.getD, hi, show 0 < rs2.length by omega] using this
        have hl0 : (0 : Int) < (rs2.length : Int) := by omega
        have hq2 : (0 : Int) < (rs2[0].ps.length : Int) := by omega
        have HD0 : Hid (rs2.getD 0 default = rs2[0]) := by show _ = _; simp [List.getD, show 0 < rs2.length by omega]
        by_cases hb : now - tm rs2[0] < win
        · rw [decide_eq_true hb] at hnear
          have hend := HE.out wr rv2 rs2 old hY HP.out HO.out (fun r hr => by have := htop r hr; omega) hc HB.out
          clear HE hY HB hXY hgr hb htop
          generalize tm rs2[0] = tm0 at *
          generalize rs2[0].ps.length = pl0 at *
          generalize rs2[0].tc = tc0 at *
          go_wp2_with (go_at_call 105; refine hnear.mono ?_; rintro e w2 ⟨rfl, he2⟩; rw [he2])
          go_end0
          exact ⟨rfl, hend⟩
        · rw [decide_eq_false hb] at hnear
          have hPop := heapPop_x hY (by omega) hlen2
          have hLn := hY.toHeapX.lenAt
          have HM : ∀ w3 rv3 rs3, HeapY F w3 X (.int .i64 win) x1 x2 x3 (.slice a5 n5 c5) rv3 rs3 tm → rs2.Perm (rs2.getD 0 default :: rs3) → lenAt X w3 < lenAt X wr := fun w3 rv3 rs3 k1 k2 => by
            rw [hLn, k1.toHeapX.lenAt]
            have := k2.length_eq
            simp at this
            omega
          have HR : ∀ w3 rv3 rs3, HeapY F w3 X (.int .i64 win) x1 x2 x3 (.slice a5 n5 c5) rv3 rs3 tm → rs2.Perm (rs2.getD 0 default :: rs3) → Chg (fun b => b = X ∨ rv2.ownBlock = some b) wr w3 → rv3.ownBlock = rv2.ownBlock → ∃ rv2 rs2 old, HeapY F w3 X (.int .i64 win) x1 x2 x3 (.slice a5 n5 c5) rv2 rs2 tm ∧ rs.Perm (old ++ rs2) ∧ (∀ r ∈ old, win ≤ now - tm r) ∧ Chg (fun b => b = X ∨ rv.ownBlock = some b) W6 w3 ∧ rv2.ownBlock = rv.ownBlock := by
            intro w3 rv3 rs3 k1 k2 k3 k4
            refine ⟨rv3, rs3, old ++ [rs2[0]], k1, ?_, fun r hr => ?_, hc.trans k3 (fun b _ e => by rcases e with e | e; exact .inl e; exact .inr (HB.out ▸ e)), k4.trans HB.out⟩
            · rw [HD0.out] at k2
              rw [List.append_assoc]
              exact HP.out.trans (k2.append_left old)
            · rcases List.mem_append.1 hr with hr | hr
              · exact HO.out r hr
              · rw [List.mem_singleton.1 hr]; omega
          have HRh : Hid _ := HR
          have HMh : Hid _ := HM
          clear HE hY HB hXY hgr htop HR HM hLn hb
          generalize tm rs2[0] = tm0 at *
          generalize rs2[0].ps.length = pl0 at *
          generalize rs2[0].tc = tc0 at *
          go_wp2_with (first
            | (go_at_call 107; refine hPop.mono ?_; rintro e w3 ⟨⟨v3, rfl⟩, rv3, rs3, k1, k2, k3, k4⟩)
            | (go_at_call 105; refine hnear.mono ?_; rintro e w2 ⟨rfl, he2⟩; rw [he2]))
          go_roundw
          case rel => exact HRh.out _ _ _ k1 k2 k3 k4
          case measure => exact HMh.out _ _ _ k1 k2
end Go.Proofs.YtddbjcfdmdbmkaaGreatDoor

namespace Go.Proofs.YtddbjcfdmdbmkaaGreatDoor
open Go.RowKit

def TestR (f : Nat) (lb : Array Value) (p : MRun → Bool) (M : Nat → Prop) (w : World) (rs : List MRun) : Prop := (∀ args w, (callFunc f args).run Tryz.prog w = .ok (.enter f args) w) ∧
  ∀ (W : World) (r : MRun), r ∈ rs → Chg M w W → Calls Tryz.prog f (#[r.val] ++ lb) W fun e w'' => e = .returned (.bool (p r)) ∧ Below W.heap.size W w''
def idxR (p : MRun → Bool) (l : List MRun) : Int := match l.findIdx? p with | some k => (k : Int) | none => -1
theorem idxR_hit {p : MRun → Bool} {l : List MRun} {k : Nat} (hk : k < l.length) (h : p l[k] = true) (hn : ∀ j, (hj : j < k) → p (l[j]'(by omega)) = false) : idxR p l = k := by
  have : l.findIdx? p = some k := List.findIdx?_eq_some_iff_getElem.2 ⟨hk, h, fun j hj => by simp [hn j hj]⟩
  unfold idxR; rw [this]
theorem idxR_miss {p : MRun → Bool} {l : List MRun} (hn : ∀ j, (hj : j < l.length) → p l[j] = false) : idxR p l = -1 := by
  have : l.findIdx? p = none := List.findIdx?_eq_none_iff.2 (fun x hx => by obtain ⟨j, hj, rfl⟩ := List.getElem_of_mem hx; exact hn j hj)
  unfold idxR; rw [this]
theorem idxR_cases (p : MRun → Bool) (l : List MRun) : (idxR p l = -1 ∧ ∀ r ∈ l, p r = false) ∨ ∃ k : Nat, idxR p l = (k : Int) ∧ ∃ h : k < l.length, p l[k] = true ∧ ∀ j, (hj : j < k) → p (l[j]'(by omega)) = false := by
  unfold idxR
  cases h : l.findIdx? p with
  | none => exact .inl ⟨rfl, fun r hr => by simpa using List.findIdx?_eq_none_iff.1 h r hr⟩
  | some k =>
    obtain ⟨hk, hp, hn⟩ := List.findIdx?_eq_some_iff_getElem.1 h
    exact .inr ⟨k, rfl, hk, hp, fun j hj => by simpa using hn j hj⟩
set_option maxRecDepth 100000 in
set_option maxHeartbeats 1600000 in
theorem indexR_p {w : World} {g cap : Nat} {rs : List MRun} (h : w.ownsRow 0 163 2 (.slice (some ⟨g, 0, none⟩) rs.length cap) rs.length (flat MRun.cells rs)) (hl : rs.length ≤ 1000000) (hsv : ∀ r ∈ rs, ∃ a b c, r.sv = .slice a b c) {f : Nat} {lb : Array Value} {p : MRun → Bool} {M : Nat → Prop} (hp : TestR f lb p M w rs) :
    Calls Tryz.prog 111 #[.slice (some ⟨g, 0, none⟩) rs.length cap, .func (.func f) #[] lb] w fun e w' => e = .returned (.int .i64 (idxR p rs)) ∧ Below w.heap.size w w' := by
  obtain ⟨ef, hpc⟩ := hp
  have hcells := fun i hi => run_cells h i hi
  have hg := (h.lt g rfl).2
  go_enter Tryz.func111, Tryz.ntmps111
  go_wp2
  go_loopw [8] (fun i wr => ∃ k : Nat, k ≤ rs.length ∧ i = .int .i64 k ∧ Below w.heap.size w wr ∧ Hid (∀ j, (hj : j < k) → (hj' : j < rs.length) → p rs[j] = false)) (fun i _ => rs.length - (intOf i).toNat)
  case atStart => exact ⟨0, Nat.zero_le _, rfl, Below.refl _ _, fun j hj => absurd hj (Nat.not_lt_zero _)⟩
  case round =>
    obtain ⟨k, hk, rfl, hbel, HN⟩ := hrel
    by_cases hlt : k < rs.length
    · obtain ⟨d0, d1⟩ := hcells k hlt
      have hcall := hpc wr rs[k] (List.getElem_mem hlt) (Chg.below M hbel)
      obtain ⟨sa, sb, sc, esv⟩ := hsv rs[k] (List.getElem_mem hlt)
      unfold MRun.val at hcall
      rw [esv] at hcall d0
      have e0 := (hbel.cell (p := ⟨g, k * 2, none⟩) hg).trans d0
      have e1 := (hbel.cell (p := ⟨g, k * 2 + 1, none⟩) hg).trans d1
      have hgl : g < wr.heap.size := Nat.lt_of_lt_of_le hg hbel.size
      have hki : (k : Int) < (rs.length : Int) := by omega
      have hk0 : (0 : Int) ≤ (k : Int) := by omega
      clear hcells d0 d1 hpc h hsv
      generalize rs[k].ta = ta at *
      generalize rs[k].ps.length = tb at *
      generalize rs[k].tc = tc at *
      cases hb : p rs[k] with
      | true =>
        rw [hb] at hcall
        have HI : Hid (idxR p rs = (k : Int)) := idxR_hit hlt hb (fun j hj => HN.out j hj (by omega))
        clear hb
        go_wp2_with (go_at_fn f; refine hcall.mono ?_; rintro e w1 ⟨rfl, hb1⟩)
        go_ret
        rw [HI.out]
        exact ⟨rfl, hbel.trans (hb1.mono hbel.size)⟩
      | false =>
        rw [hb] at hcall
        have HN' : Hid (∀ j, (hj : j < k + 1) → (hj' : j < rs.length) → p rs[j] = false) := fun j hj hj' => by
          by_cases e : j = k
          · subst e; exact hb
          · exact HN.out j (by omega) hj'
        clear hb
        go_wp2_with (go_at_fn f; refine hcall.mono ?_; rintro e w1 ⟨rfl, hb1⟩)
        go_roundw
        case rel => exact ⟨k + 1, hlt, by go_num, hbel.trans (hb1.mono hbel.size), HN'⟩
        case measure => simp [intOf]; omega
    · have ek : k = rs.length := by omega
      subst ek
      have HI : Hid (idxR p rs = -1) := idxR_miss (fun j hj => HN.out j hj hj)
      go_wp2
      go_ret
      rw [HI.out]
      exact ⟨rfl, hbel⟩
theorem row_far {w : World} {base : Nat} {e : TypeId} {s g m cap k : Nat} {xs : List Value} {u : Value} (h : w.ownsRow base e s (.slice (some ⟨g, 0, none⟩) m cap) m xs) (hk : xs.length ≤ k) : (w.setCell ⟨g, k, none⟩ u).ownsRow base e s (.slice (some ⟨g, 0, none⟩) m cap) m xs := by
  obtain ⟨h1, h2⟩ := h
  refine ⟨h1, ?_⟩
  rcases h2 with ⟨h, _⟩ | ⟨g', cap', cur, he, hb, hg, hn, hcm, hcs, htake⟩
  · cases h
  · cases he
    have hB : Blk w g cur e := hg
    refine .inr ⟨g, cap, cur.setIfInBounds k u, rfl, hb, hB.set k u, hn, hcm, by simpa using hcs, ?_⟩
    rw [← htake, Array.toList_setIfInBounds, List.take_set_of_le (by omega)]
theorem row_fars {base : Nat} {e : TypeId} {s g m cap : Nat} {xs : List Value} : ∀ (us : List Value) (k : Nat) {w : World}, w.ownsRow base e s (.slice (some ⟨g, 0, none⟩) m cap) m xs → xs.length ≤ k → (w.setCells g k us).ownsRow base e s (.slice (some ⟨g, 0, none⟩) m cap) m xs := by
  intro us
  induction us with
  | nil => intro k w h _; exact h
  | cons u us ih => intro k w h hk; exact ih (k + 1) (row_far h hk) (by omega)
theorem chg_setCells {M : Nat → Prop} {w0 : World} {g : Nat} (hg : M g) : ∀ (us : List Value) (k : Nat) {w : World}, Chg M w0 w → Chg M w0 (w.setCells g k us) := by
  intro us
  induction us with
  | nil => intro k w h; exact h
  | cons u us ih => intro k w h; exact ih (k + 1) (h.setCell (p := ⟨g, k, none⟩) (.inl hg) u)
theorem runs_zero (w : World) : (zeroValue 163).run Tryz.prog w = .ok (.agg #[.slice none 0 0, .slice none 0 0]) w := by kernel_rfl
theorem run_clear_runs (w : World) (ty : TypeId) (b o n c : Nat) (hn : 0 < n) (hc : ∀ j, j < n * 2 → (w.cell? ⟨b, o + j, none⟩).isSome = true) (hf : ∀ j, j < n * 2 → w.frozen? ⟨b, o + j, none⟩ = false) :
    (Builtin.clear_ #[108] ty #[.slice (some ⟨b, o, none⟩) n c]).run Tryz.prog w = .ok (.tuple #[]) (w.setCells b o (List.replicate (n * 2) (.slice none 0 0))) := by
  have hzc : (Builtin.zeroCells (Value.agg #[.slice none 0 0, .slice none 0 0]).cells n).toList = List.replicate (n * 2) (.slice none 0 0) := by
    have e : (Value.agg #[.slice none 0 0, .slice none 0 0]).cells = #[.slice none 0 0, .slice none 0 0] := by kernel_rfl
    rw [e]
    unfold Builtin.zeroCells
    apply List.ext_getElem
    · simp
    · intro i h1 h2
      simp
      rcases (by omega : i % 2 = 0 ∨ i % 2 = 1) with h | h <;> simp [h]
  have hst := run_storeCells_cells (P := Tryz.prog) b o (List.replicate (n * 2) (.slice none 0 0)) 0 w (by simpa using hc) (by simpa using hf) (by intro v hv'; rw [List.eq_of_mem_replicate hv']; rfl)
  simp only [Nat.add_zero] at hst
  obtain ⟨m, rfl⟩ : ∃ m, n = m + 1 := ⟨n - 1, by omega⟩
  simp [Builtin.clear_, run_underlying Tryz.underlying108, runs_zero, hzc, hst]
end Go.Proofs.YtddbjcfdmdbmkaaGreatDoor

namespace Go.Proofs.YtddbjcfdmdbmkaaGreatDoor
open Go.RowKit

structure DelAt (p : MRun → Bool) (rs ls : List MRun) (m k : Nat) : Prop where
  len : ls.length = rs.length
  le : m ≤ k
  take : ls.take m = (rs.take k).filter fun r => !p r
  rest : ls.drop k = rs.drop k
theorem DelAt.skip {p : MRun → Bool} {rs ls : List MRun} {m k : Nat} (h : DelAt p rs ls m k) (hk : k < rs.length) (hp : p rs[k] = true) : DelAt p rs ls m (k + 1) := by
  refine ⟨h.len, by have := h.le; omega, ?_, ?_⟩
  · rw [h.take, List.take_succ_eq_append_getElem hk, List.filter_append]; simp [hp]
  · rw [← List.drop_drop, h.rest, List.drop_drop]
theorem DelAt.at {p : MRun → Bool} {rs ls : List MRun} {m k : Nat} (h : DelAt p rs ls m k) (hk : k < rs.length) : ls[k]'(by rw [h.len]; exact hk) = rs[k] := by
  have h1 := h.rest
  rw [List.drop_eq_getElem_cons (by rw [h.len]; exact hk), List.drop_eq_getElem_cons hk] at h1
  exact (List.cons.inj h1).1
theorem DelAt.keep {p : MRun → Bool} {rs ls : List MRun} {m k : Nat} (h : DelAt p rs ls m k) (hk : k < rs.length) (hp : p rs[k] = false) : DelAt p rs (ls.set m rs[k]) (m + 1) (k + 1) := by
  have hle := h.le
  have hl := h.len
  refine ⟨by simpa using hl, by omega, ?_, ?_⟩
  · rw [List.take_succ_eq_append_getElem (by rw [List.length_set]; omega), List.take_set_of_le (Nat.le_refl _), h.take, List.take_succ_eq_append_getElem hk, List.filter_append]
    simp [hp]
  · rw [List.drop_set_of_lt (by omega), ← List.drop_drop, h.rest, List.drop_drop]
theorem DelAt.start {p : MRun → Bool} {rs : List MRun} {k : Nat} (hk : k < rs.length) (hp : p rs[k] = true) (hn : ∀ j, (hj : j < k) → p (rs[j]'(by omega)) = false) : DelAt p rs rs k (k + 1) := by
  refine ⟨rfl, by omega, ?_, rfl⟩
  rw [List.take_succ_eq_append_getElem hk, List.filter_append]
  have e : (rs.take k).filter (fun r => !p r) = rs.take k := List.filter_eq_self.2 (fun r hr => by
    obtain ⟨j, hj, rfl⟩ := List.getElem_of_mem hr
    simp at hj
    simp [hn j (by omega)])
  rw [e]
  simp [hp]
set_option maxRecDepth 100000 in
set_option maxHeartbeats 3200000 in
theorem deleteR_p {w : World} {g cap : Nat} {rs : List MRun} (h : w.ownsRow 0 163 2 (.slice (some ⟨g, 0, none⟩) rs.length cap) rs.length (flat MRun.cells rs)) (hl : rs.length ≤ 1000000) (hsv : ∀ r ∈ rs, ∃ a b c, r.sv = .slice a b c) {f : Nat} {lb : Array Value} {p : MRun → Bool} (hp : TestR f lb p (fun b => b = g) w rs) :
    Calls Tryz.prog 74 #[.slice (some ⟨g, 0, none⟩) rs.length cap, .func (.func f) #[] lb] w fun e w' => e = .returned (.slice (some ⟨g, 0, none⟩) (rs.filter fun r => !p r).length cap) ∧ w'.ownsRow 0 163 2 (.slice (some ⟨g, 0, none⟩) (rs.filter fun r => !p r).length cap) (rs.filter fun r => !p r).length (flat MRun.cells (rs.filter fun r => !p r)) ∧ Chg (fun b => b = g) w w' := by
  have hIdx := indexR_p h hl hsv hp
  have hg := (h.lt g rfl).2
  have hcap : rs.length ≤ cap := by
    rcases h.2 with ⟨e, _⟩ | ⟨g', cap', cur, he, _, hgg, hn, _⟩
    · cases e
    · cases he; exact hn
  rcases idxR_cases p rs with ⟨hi, hnone⟩ | ⟨k0, hi, hk0, hpk, hpn⟩
  · rw [hi] at hIdx
    have e : rs.filter (fun r => !p r) = rs := List.filter_eq_self.2 (fun r hr => by simp [hnone r hr])
    rw [e]
    have HE : Hid (∀ w', Below w.heap.size w w' → w'.ownsRow 0 163 2 (.slice (some ⟨g, 0, none⟩) rs.length cap) rs.length (flat MRun.cells rs)) := fun w' hb => row_of_blk h (fun z hz => hb.block z (h.lt z hz).2)
    clear h hp
    go_enter Tryz.func74, Tryz.ntmps74
    go_wp2_with (go_at_call 111; refine hIdx.mono ?_; rintro e w1 ⟨rfl, hb1⟩)
    go_ret
    exact ⟨rfl, HE.out _ hb1, Chg.below _ hb1⟩
  · rw [hi] at hIdx
    have hD0 := DelAt.start hk0 hpk hpn
    have HR0 : ∀ w', Below w.heap.size w w' → w'.ownsRow 0 163 2 (.slice (some ⟨g, 0, none⟩) rs.length cap) rs.length (flat MRun.cells rs) := fun w' hb => row_of_blk h (fun z hz => hb.block z (h.lt z hz).2)
    obtain ⟨ef, hpc⟩ := hp
    clear h hi
    have hki : ((k0 : Int) == -1) = false := by simp
    go_enter Tryz.func74, Tryz.ntmps74
    go_wp2_with (go_at_call 111; refine hIdx.mono ?_; rintro e w1 ⟨rfl, hb1⟩)
    have hR0 := HR0 w1 hb1
    have hC0 := Chg.below (fun b => b = g) hb1
    clear HR0 hIdx hb1
    go_loopw [5, 6] (fun i j wr => ∃ (m k : Nat) (ls : List MRun), i = .int .i64 m ∧ j = .int .i64 k ∧ k ≤ rs.length ∧ m < rs.length ∧ DelAt p rs ls m k ∧ (∀ r ∈ ls, r ∈ rs) ∧ wr.ownsRow 0 163 2 (.slice (some ⟨g, 0, none⟩) rs.length cap) rs.length (flat MRun.cells ls) ∧ Chg (fun b => b = g) w wr ∧ m < k) (fun _ j _ => rs.length - (intOf j).toNat)
    case atStart => exact ⟨k0, k0 + 1, rs, rfl, by go_num, hk0, hk0, hD0, fun r hr => hr, hR0, hC0, by omega⟩
    case round =>
      obtain ⟨m, k, ls, rfl, rfl, hk, hm, hD, hin, hrow, hC, hmk⟩ := hrel
      clear hD0 hR0 hC0 hpk hpn
      have hlen := hD.len
      have hrow2 : wr.ownsRow 0 163 2 (.slice (some ⟨g, 0, none⟩) ls.length cap) ls.length (flat MRun.cells ls) := by rw [hlen]; exact hrow
      have hgl := (hrow.lt g rfl).2
      obtain ⟨cur, hB, hcs⟩ : ∃ cur, Blk wr g cur 163 ∧ rs.length * 2 ≤ cur.size := by
        rcases hrow.2 with ⟨e, _⟩ | ⟨g', cap', cur, he, _, hgg, hn, _, hcs, _⟩
        · cases e
        · cases he; exact ⟨cur, hgg, by rw [hcs]; exact Nat.mul_le_mul_right _ hn⟩
      have HL : Hid (ls.length = rs.length) := hlen
      by_cases hlt : k < rs.length
      · have hat := hD.at hlt
        obtain ⟨d0, d1⟩ := run_cells hrow2 k (by omega)
        rw [hat] at d0 d1
        obtain ⟨sa, sb, sc, esv⟩ := hsv rs[k] (List.getElem_mem hlt)
        have hcall : ∀ W, Below wr.heap.size wr W → Calls Tryz.prog f (#[.agg #[.slice sa sb sc, .slice rs[k].ta rs[k].ps.length rs[k].tc]] ++ lb) W fun e w'' => e = .returned (.bool (p rs[k])) ∧ Below W.heap.size W w'' := fun W hW => by
          have := hpc W rs[k] (List.getElem_mem hlt) (hC.trans (Chg.below (fun b => b = g) hW) (fun b _ h => h))
          unfold MRun.val at this
          rw [esv] at this
          exact this
        rw [esv] at d0
        have hki : (k : Int) < (rs.length : Int) := by omega
        have hk0' : (0 : Int) ≤ (k : Int) := by omega
        have hN := Blk.new wr #[.slice sa sb sc, .slice rs[k].ta rs[k].ps.length rs[k].tc] 163
        have hbN : Below wr.heap.size wr (wr.alloc (.cells #[.slice sa sb sc, .slice rs[k].ta rs[k].ps.length rs[k].tc] 163)) := (Below.refl _ wr).alloc (Nat.le_refl _) _
        cases hb : p rs[k] with
        | true =>
          have HS : Hid (DelAt p rs ls m (k + 1)) := hD.skip hlt hb
          rw [hb] at hcall
          have hcall2 := hcall _ hbN
          have HEnd : Hid (∀ W, Below (wr.alloc (.cells #[.slice sa sb sc, .slice rs[k].ta rs[k].ps.length rs[k].tc] 163)).heap.size (wr.alloc (.cells #[.slice sa sb sc, .slice rs[k].ta rs[k].ps.length rs[k].tc] 163)) W → W.ownsRow 0 163 2 (.slice (some ⟨g, 0, none⟩) rs.length cap) rs.length (flat MRun.cells ls) ∧ Chg (fun b => b = g) w W) := fun W hW => by
            have hb2 := hbN.trans (hW.mono hbN.size)
            exact ⟨row_of_blk hrow (fun z hz => hb2.block z (hrow.lt z hz).2), hC.trans (Chg.below (fun b => b = g) hb2) (fun b _ h => h)⟩
          clear hb hD hcall hrow hrow2 hat hlen hsv hpc hC hB hN hbN
          generalize rs[k].ta = ta at *
          generalize rs[k].ps.length = tb at *
          generalize rs[k].tc = tc at *
          go_wp2_with (go_at_fn f; refine hcall2.mono ?_; rintro e w2 ⟨rfl, hb2⟩)
          go_roundw
          case rel =>
            obtain ⟨q1, q2⟩ := HEnd.out _ hb2
            exact ⟨m, k + 1, ls, rfl, by go_num, hlt, hm, HS.out, hin, q1, q2, by omega⟩
          case measure => simp [intOf]; omega
        | false =>
          have HS : Hid (DelAt p rs (ls.set m rs[k]) (m + 1) (k + 1)) := hD.keep hlt hb
          have HIn : Hid (∀ r ∈ ls.set m rs[k], r ∈ rs) := fun r hr => by
            rcases List.mem_or_eq_of_mem_set hr with hr | hr
            · exact hin r hr
            · rw [hr]; exact List.getElem_mem hlt
          rw [hb] at hcall
          have hcall2 := hcall _ hbN
          have hB1 := hB.alloc (.cells #[.slice sa sb sc, .slice rs[k].ta rs[k].ps.length rs[k].tc] 163)
          have HEnd : Hid (∀ W, Below (wr.alloc (.cells #[.slice sa sb sc, .slice rs[k].ta rs[k].ps.length rs[k].tc] 163)).heap.size (wr.alloc (.cells #[.slice sa sb sc, .slice rs[k].ta rs[k].ps.length rs[k].tc] 163)) W → ((W.setCell ⟨g, m * 2, none⟩ (.slice sa sb sc)).setCell ⟨g, m * 2 + 1, none⟩ (.slice rs[k].ta rs[k].ps.length rs[k].tc)).ownsRow 0 163 2 (.slice (some ⟨g, 0, none⟩) rs.length cap) rs.length (flat MRun.cells (ls.set m rs[k])) ∧ Chg (fun b => b = g) w ((W.setCell ⟨g, m * 2, none⟩ (.slice sa sb sc)).setCell ⟨g, m * 2 + 1, none⟩ (.slice rs[k].ta rs[k].ps.length rs[k].tc))) := fun W hW => by
            have hb2 := hbN.trans (hW.mono hbN.size)
            have r1 : W.ownsRow 0 163 2 (.slice (some ⟨g, 0, none⟩) rs.length cap) rs.length (flat MRun.cells ls) := row_of_blk hrow (fun z hz => hb2.block z (hrow.lt z hz).2)
            have hfl : (flat MRun.cells ls).length = rs.length * 2 := hrow.1
            refine ⟨?_, ((hC.trans (Chg.below (fun b => b = g) hb2) (fun b _ h => h)).setCell (p := ⟨g, m * 2, none⟩) (.inl rfl) _).setCell (p := ⟨g, m * 2 + 1, none⟩) (.inl rfl) _⟩
            rw [flat_set2 (f := MRun.cells) (a := MRun.sv) (b := fun r => .slice r.ta r.ps.length r.tc) (fun _ => rfl), esv]
            exact row_set (row_set r1 (by omega)) (by rw [List.length_set]; omega)
          have hmi : (m : Int) < (rs.length : Int) := by omega
          have hm0 : (0 : Int) ≤ (m : Int) := by omega
          have hcs2 : m * 2 + 1 < cur.size := by omega
          clear hb hD hcall hrow hrow2 hat hlen hsv hpc hC hB hbN hin
          generalize ls.set m rs[k] = ls2 at *
          generalize rs[k].ta = ta at *
          generalize rs[k].ps.length = tb at *
          generalize rs[k].tc = tc at *
          go_wp2_with (go_at_fn f; refine hcall2.mono ?_; rintro e w2 ⟨rfl, hb2⟩; have hN2 := hN.of_eq (hb2.block _ hN.lt); have n0 := hN2.cell 0; have n1 := hN2.cell 1; have hNl2 := hN2.lt; have hB2 := hB1.of_eq (hb2.block _ hB1.lt); have b0 := hB2.cell (m * 2); have b1 := hB2.cell (m * 2 + 1); have bf0 := hB2.frozen (m * 2); have bf1 := hB2.frozen (m * 2 + 1); have hBl2 := hB2.lt; have hB3 := hB2.set (m * 2) (.slice sa sb sc); have b3 := hB3.cell (m * 2 + 1); have bf3 := hB3.frozen (m * 2 + 1); have hBl3 := hB3.lt; rw [Array.getElem?_eq_getElem (by omega)] at b0 b1; rw [Array.getElem?_eq_getElem (by simp; omega)] at b3; simp at n0 n1)
          go_roundw
          case rel =>
            obtain ⟨q1, q2⟩ := HEnd.out _ hb2
            exact ⟨m + 1, k + 1, ls2, by go_num, by go_num, hlt, by omega, HS.out, HIn.out, q1, q2, by omega⟩
          case measure => simp [intOf]; omega
      · have ek : k = rs.length := by omega
        subst ek
        have hfil : ls.take m = rs.filter fun r => !p r := by have := hD.take; rwa [List.take_length] at this
        have hml : (rs.filter fun r => !p r).length = m := by rw [← hfil, List.length_take]; omega
        have HML : Hid ((rs.filter fun r => !p r).length = m) := hml
        have HFL : Hid (ls.take m = rs.filter fun r => !p r) := hfil
        have hnz : 0 < rs.length - m := by omega
        have hcl : ∀ ty, (Builtin.clear_ #[108] ty #[.slice (some ⟨g, m * 2, none⟩) (rs.length - m) (cap - m)]).run Tryz.prog wr = .ok (.tuple #[]) (wr.setCells g (m * 2) (List.replicate ((rs.length - m) * 2) (.slice none 0 0))) := fun ty =>
          run_clear_runs wr ty g (m * 2) (rs.length - m) (cap - m) hnz (fun j hj => by rw [hB.cell (m * 2 + j), Array.getElem?_eq_getElem (by omega)]; rfl) (fun j hj => hB.frozen _)
        have HEnd : Hid ((wr.setCells g (m * 2) (List.replicate ((rs.length - m) * 2) (.slice none 0 0))).ownsRow 0 163 2 (.slice (some ⟨g, 0, none⟩) m cap) m (flat MRun.cells (ls.take m)) ∧ Chg (fun b => b = g) w (wr.setCells g (m * 2) (List.replicate ((rs.length - m) * 2) (.slice none 0 0)))) := by
          have r2 := row_cut (m := m) hrow (by omega)
          rw [flat_take2 (fun _ => rfl)] at r2
          exact ⟨row_fars _ _ r2 (by rw [r2.1]; exact Nat.le_refl _), chg_setCells (M := fun b => b = g) (g := g) rfl _ _ hC⟩
        have hmi : (m : Int) ≤ (rs.length : Int) := by omega
        have hm0 : (0 : Int) ≤ (m : Int) := by omega
        have hci : (rs.length : Int) ≤ (cap : Int) := by omega
        have hmc : (m : Int) ≤ (cap : Int) := by omega
        have hne : ¬ cap = m := by omega
        clear hD hin hrow hrow2 hC hB hpc hsv hfil hml hlen
        generalize ls.take m = ls2 at *
        go_wp2
        go_ret
        rw [HML.out, ← HFL.out]
        exact ⟨rfl, HEnd.out⟩
end Go.Proofs.YtddbjcfdmdbmkaaGreatDoor

namespace Go.Proofs.YtddbjcfdmdbmkaaGreatDoor
open Go.RowKit

def absP (paths : List (List WStep)) : List (List ASt) := paths.map fun p => p.map stepA
theorem absP_at (paths : List (List WStep)) (i : Nat) : pathAt (absP paths) i = (paths.getD i []).map stepA := by
  unfold pathAt absP
  simp [List.getD_eq_getElem?_getD]
  cases paths[i]? <;> rfl
def WellP (paths : List (List WStep)) : Prop := ∀ p ∈ paths, ∀ s ∈ p, WellS s
structure SeenL (F : Nat → Prop) (w : World) (evs : List Ev) (sps : List Nat) : Prop where
  len : sps.length = evs.length
  ev : ∀ i, (h : i < evs.length) → (h' : i < sps.length) → SeenAt w sps[i] evs[i] i ∧ F sps[i] ∧ sps[i] < w.heap.size
structure RunV (F : Nat → Prop) (w : World) (paths : List (List WStep)) (svs : List Value) (evs : List Ev) (sps : List Nat) (r : MRun) : Prop where
  path : r.pl.1 < paths.length
  sv : r.sv = svs.getD r.pl.1 default
  steps : StepsS F w r.sv (paths.getD r.pl.1 [])
  ps : r.ps = r.pl.2.map (sps.getD · 0)
  lt : ∀ i ∈ r.pl.2, i < evs.length
  taken : TakenAt w r.ta r.tc r.ps
  tF : ∀ t, r.ta = some t → F t.block
theorem SeenL.to {F F' : Nat → Prop} {w w' : World} {evs : List Ev} {sps : List Nat} (h : SeenL F w evs sps) (hk : KeepS F w F' w') (hs : w.heap.size ≤ w'.heap.size) : SeenL F' w' evs sps :=
  ⟨h.len, fun i a b => by
    obtain ⟨h1, h2, h3⟩ := h.ev i a b
    obtain ⟨k1, k2⟩ := hk _ h2 h3
    exact ⟨Blk.of_eq h1 k2, k1, by omega⟩⟩
theorem TakenAt.to {F F' : Nat → Prop} {w w' : World} {ta : Option Addr} {tc : Nat} {ps : List Nat} (h : TakenAt w ta tc ps) (hF : ∀ t, ta = some t → F t.block) (hk : KeepS F w F' w') (hs : w.heap.size ≤ w'.heap.size) : TakenAt w' ta tc ps := by
  rcases h with h | ⟨h1, g, rfl, h2, h3⟩
  · exact .inl h
  · exact .inr ⟨h1, g, rfl, by omega, fun i hi => (cell_eq (hk g (hF _ rfl) h2).2 i).trans (h3 i hi)⟩
theorem TakenAt.blk {w : World} {ta : Option Addr} {tc : Nat} {ps : List Nat} (h : TakenAt w ta tc ps) : ∀ t, ta = some t → t.block < w.heap.size := by
  intro t e
  rcases h with ⟨_, h, _⟩ | ⟨_, g, e2, h2, _⟩
  · rw [h] at e; cases e
  · rw [e] at e2; cases e2; exact h2
theorem RunV.to {F F' : Nat → Prop} {w w' : World} {paths : List (List WStep)} {svs : List Value} {evs : List Ev} {sps : List Nat} {r : MRun} (h : RunV F w paths svs evs sps r) (hk : KeepS F w F' w') (hs : w.heap.size ≤ w'.heap.size) : RunV F' w' paths svs evs sps r :=
  ⟨h.path, h.sv, h.steps.to hk, h.ps, h.lt, h.taken.to h.tF hk hs, fun t e => (hk _ (h.tF t e) (h.taken.blk t e)).1⟩
theorem sps_get {F : Nat → Prop} {w : World} {evs : List Ev} {sps : List Nat} (h : SeenL F w evs sps) {i : Nat} (hi : i < evs.length) : SeenAt w (sps.getD i 0) (evAt evs i) i ∧ F (sps.getD i 0) ∧ sps.getD i 0 < w.heap.size := by
  have hi' : i < sps.length := by rw [h.len]; exact hi
  have := h.ev i hi hi'
  simpa [List.getD, hi, hi', evAt] using this
theorem RunV.len {F : Nat → Prop} {w : World} {paths : List (List WStep)} {svs : List Value} {evs : List Ev} {sps : List Nat} {r : MRun} (h : RunV F w paths svs evs sps r) : r.ps.length = r.pl.2.length := by rw [h.ps, List.length_map]
theorem RunV.ctx {F : Nat → Prop} {w : World} {paths : List (List WStep)} {svs : List Value} {evs : List Ev} {sps : List Nat} {r : MRun} (h : RunV F w paths svs evs sps r) (hS : SeenL F w evs sps) (hl : r.ps.length ≤ 1000000) {ip n : Nat} {e : Ev} (hip : SeenAt w ip e n) : Ctx w w.heap.size (.slice r.ta r.ps.length r.tc) r.ps (evsOf evs r.pl.2) ip e := by
  have hlen := h.len
  refine ⟨by rw [hlen]; simp [evsOf], hl, ⟨_, _, rfl, fun h0 => ?_⟩, fun i h1 h2 => ?_, hip.lt, n, hip⟩
  · rcases h.taken with ⟨e, _⟩ | ⟨_, g, e1, e2, e3⟩
    · rw [e] at h0; simp at h0
    · exact ⟨g, e1, e2, e3⟩
  · have h3 : i < r.pl.2.length := by omega
    have hlt := h.lt r.pl.2[i] (List.getElem_mem h3)
    obtain ⟨q1, q2, q3⟩ := sps_get hS hlt
    have e1 : r.ps[i] = sps.getD r.pl.2[i] 0 := by simp [h.ps]
    have e2 : (evsOf evs r.pl.2)[i] = evAt evs r.pl.2[i] := by simp [evsOf]
    rw [e1, e2]
    exact ⟨q3, _, q1⟩
theorem RunV.step {F : Nat → Prop} {w : World} {paths : List (List WStep)} {svs : List Value} {evs : List Ev} {sps : List Nat} {r : MRun} (h : RunV F w paths svs evs sps r) (hl : r.pl.2.length < (paths.getD r.pl.1 []).length) : ∃ g c cv gv, r.sv = .slice (some ⟨g, 0, none⟩) (paths.getD r.pl.1 []).length c ∧ StepV F w g r.ps.length (paths.getD r.pl.1 [])[r.pl.2.length] cv gv := by
  obtain ⟨a, c, e1, h1⟩ := h.steps.at
  obtain ⟨g, cv, gv, rfl, h2⟩ := h1 r.pl.2.length hl
  refine ⟨g, c, cv, gv, e1, ?_⟩
  rw [h.len]; exact h2
theorem run_stops {F : Nat → Prop} {w : World} {paths : List (List WStep)} {svs : List Value} {evs : List Ev} {sps : List Nat} {r : MRun} (h : RunV F w paths svs evs sps r) (hS : SeenL F w evs sps) (hW : WellP paths) (hl : r.pl.2.length < (paths.getD r.pl.1 []).length) (h8 : (paths.getD r.pl.1 []).length ≤ 100000) {ip n : Nat} {e : Ev} (hip : SeenAt w ip e n) :
    Calls Tryz.prog 76 #[r.val, .pointer (some ⟨ip, 0, none⟩)] w fun x w' => x = .returned (.bool (stopsB (absP paths) evs e r.pl)) ∧ Below w.heap.size w w' := by
  obtain ⟨g, c, cv, gv, e1, hV⟩ := h.step hl
  have hlen := h.len
  have hwell : WellS (paths.getD r.pl.1 [])[r.pl.2.length] := by
    have hp := h.path
    have e2 : paths.getD r.pl.1 [] = paths[r.pl.1] := by simp [List.getD, hp]
    exact hW _ (by rw [e2]; exact List.getElem_mem hp) _ (List.getElem_mem hl)
  have := stops_p (c := c) (ta := r.ta) (tc := r.tc) hV (by rw [hlen]; exact hl) hwell.guards (by have := hwell.few; omega) (h.ctx hS (by omega) hip)
  unfold MRun.val
  rw [e1]
  refine this.mono ?_
  rintro x w' ⟨h1, h2⟩
  refine ⟨?_, h2⟩
  rw [h1]
  congr 2
  unfold stopsB
  rw [absP_at, List.getElem?_map, List.getElem?_eq_getElem hl]
  rfl
theorem run_takes {F : Nat → Prop} {w : World} {paths : List (List WStep)} {svs : List Value} {evs : List Ev} {sps : List Nat} {r : MRun} (h : RunV F w paths svs evs sps r) (hS : SeenL F w evs sps) (hW : WellP paths) (hl : r.pl.2.length < (paths.getD r.pl.1 []).length) (h8 : (paths.getD r.pl.1 []).length ≤ 100000) {ip n : Nat} {e : Ev} (hip : SeenAt w ip e n) :
    Calls Tryz.prog 109 #[r.val, .pointer (some ⟨ip, 0, none⟩)] w fun x w' => x = .returned (.bool (takesB (absP paths) evs e r.pl)) ∧ Below w.heap.size w w' := by
  obtain ⟨g, c, cv, gv, e1, hV⟩ := h.step hl
  have hlen := h.len
  have hwell : WellS (paths.getD r.pl.1 [])[r.pl.2.length] := by
    have hp := h.path
    have e2 : paths.getD r.pl.1 [] = paths[r.pl.1] := by simp [List.getD, hp]
    exact hW _ (by rw [e2]; exact List.getElem_mem hp) _ (List.getElem_mem hl)
  have := takes_p (c := c) (ta := r.ta) (tc := r.tc) hV (by rw [hlen]; exact hl) hwell.want (h.ctx hS (by omega) hip)
  unfold MRun.val
  rw [e1]
  refine this.mono ?_
  rintro x w' ⟨h1, h2⟩
  refine ⟨?_, h2⟩
  rw [h1]
  congr 2
  unfold takesB
  rw [absP_at, List.getElem?_map, List.getElem?_eq_getElem hl]
  rfl
theorem test_stops {F : Nat → Prop} {w : World} {paths : List (List WStep)} {svs : List Value} {evs : List Ev} {sps : List Nat} {rs : List MRun} {M : Nat → Prop} (hR : ∀ r ∈ rs, RunV F w paths svs evs sps r ∧ r.pl.2.length < (paths.getD r.pl.1 []).length ∧ (paths.getD r.pl.1 []).length ≤ 100000 ∧ ∃ a b c, r.sv = .slice a b c) (hS : SeenL F w evs sps) (hW : WellP paths) {ip n N : Nat} {e : Ev} (hip : SeenAt w ip e n) (hN : Blk w N #[.pointer (some ⟨ip, 0, none⟩)] 156) (hM : ∀ b, M b → ¬ F b) (hMip : ¬ M ip) (hMN : ¬ M N) :
    TestR 75 #[.pointer (some ⟨N, 0, none⟩)] (fun r => stopsB (absP paths) evs e r.pl) M w rs := by
  refine ⟨Go.Proofs.enters_of Tryz.func75 (by kernel_rfl) rfl, fun W r hr hc => ?_⟩
  obtain ⟨h1, h2, h3, sa, sb, sc, esv⟩ := hR r hr
  have hb0 : Below W.heap.size W (W.alloc (.cells #[.slice sa sb sc, .slice r.ta r.ps.length r.tc] 163)) := (Below.refl _ W).alloc (Nat.le_refl _) _
  have hc2 := hc.trans (Chg.below M hb0) (fun b _ h => h)
  have hk : KeepS F w F (W.alloc (.cells #[.slice sa sb sc, .slice r.ta r.ps.length r.tc] 163)) := fun b hb hl => ⟨hb, hc2.at b hl (fun hm => hM b hm hb)⟩
  have hcall := run_stops (h1.to hk hc2.size) (hS.to hk hc2.size) hW h2 h3 (Blk.of_eq hip (hc2.at ip hip.lt hMip))
  have hN2 := hN.of_eq (hc2.at N hN.lt hMN)
  have n0 := hN2.cell 0; have hNl := hN2.lt
  simp at n0
  show Calls Tryz.prog 75 #[r.val, .pointer (some ⟨N, 0, none⟩)] W _
  unfold MRun.val at hcall ⊢
  rw [esv] at hcall ⊢
  have hv : (fun r => stopsB (absP paths) evs e r.pl) r = stopsB (absP paths) evs e r.pl := rfl
  rw [hv]
  generalize stopsB (absP paths) evs e r.pl = bv at *
  generalize r.ta = ta at *
  generalize r.ps.length = tb at *
  generalize r.tc = tc at *
  go_enter Tryz.func75, Tryz.ntmps75
  go_wp2_with (go_at_call 76; refine hcall.mono ?_; rintro e w1 ⟨rfl, hb1⟩)
  go_ret
  exact ⟨rfl, hb0.trans (hb1.mono hb0.size)⟩
end Go.Proofs.YtddbjcfdmdbmkaaGreatDoor

namespace Go.Proofs.YtddbjcfdmdbmkaaGreatDoor
open Go.RowKit

def withR (r : MRun) (g cap ip n : Nat) : MRun := ⟨r.sv, some ⟨g, 0, none⟩, cap, r.ps ++ [ip], withP n r.pl⟩
structure TryPost (B : Nat) (W : World) (N2 : Nat) (av : Value) (gs : List MRun) (r : MRun) (ip n : Nat) (took : Bool) (w' : World) : Prop where
  no : took = false → Below W.heap.size W w'
  yes : took = true → ∃ a b c g cap, Blk w' N2 #[.slice a b c] 107 ∧ w'.ownsRow B 163 2 (.slice a b c) (gs ++ [withR r g cap ip n]).length (flat MRun.cells (gs ++ [withR r g cap ip n])) ∧ w'.ownsRow W.heap.size 156 1 (.slice (some ⟨g, 0, none⟩) (r.ps.length + 1) cap) (r.ps.length + 1) ((r.ps ++ [ip]).map ptrV) ∧ Chg (fun b => b = N2 ∨ av.ownBlock = some b) W w' ∧ ∀ z, (Value.slice a b c).ownBlock = some z → av.ownBlock = some z ∨ W.heap.size ≤ z
set_option maxRecDepth 100000 in
set_option maxHeartbeats 3200000 in
theorem try_p {F : Nat → Prop} {W : World} {paths : List (List WStep)} {svs : List Value} {evs : List Ev} {sps : List Nat} {r : MRun} (h : RunV F W paths svs evs sps r) (hS : SeenL F W evs sps) (hW : WellP paths) (hl : r.pl.2.length < (paths.getD r.pl.1 []).length) (h8 : (paths.getD r.pl.1 []).length ≤ 10000) (hsv : ∃ a b c, r.sv = .slice a b c) {ip n N1 N2 B : Nat} {e : Ev} {av : Value} {gs : List MRun} (hip : SeenAt W ip e n) (hN1 : Blk W N1 #[.pointer (some ⟨ip, 0, none⟩)] 156) (hN2 : Blk W N2 #[av] 107) (hrow : W.ownsRow B 163 2 av gs.length (flat MRun.cells gs)) (hgl : gs.length ≤ 1000000) (hB : B ≤ W.heap.size) :
    Calls Tryz.prog 108 #[r.val, .pointer (some ⟨N1, 0, none⟩), .pointer (some ⟨N2, 0, none⟩)] W fun x w' => x = .returned (.tuple #[]) ∧ TryPost B W N2 av gs r ip n (takesB (absP paths) evs e r.pl) w' := by
  obtain ⟨i0, hi0, hz0, hz1, hz2⟩ := info_parts Tryz.infoRun
  obtain ⟨sa, sb, sc, esv⟩ := hsv
  have hb0 : Below W.heap.size W (W.alloc (.cells #[.slice sa sb sc, .slice r.ta r.ps.length r.tc] 163)) := (Below.refl _ W).alloc (Nat.le_refl _) _
  have hk0 : KeepS F W F (W.alloc (.cells #[.slice sa sb sc, .slice r.ta r.ps.length r.tc] 163)) := fun b hb hl => ⟨hb, hb0.block b hl⟩
  have hcall := run_takes (h.to hk0 hb0.size) (hS.to hk0 hb0.size) hW hl (by omega) (Blk.of_eq hip (hb0.block ip hip.lt))
  have hRN := Blk.new W #[.slice sa sb sc, .slice r.ta r.ps.length r.tc] 163
  have hN1a := hN1.alloc (.cells #[.slice sa sb sc, .slice r.ta r.ps.length r.tc] 163)
  have hN2a := hN2.alloc (.cells #[.slice sa sb sc, .slice r.ta r.ps.length r.tc] 163)
  have n1 := hN1a.cell 0; have hNl1 := hN1a.lt
  simp at n1
  unfold MRun.val at hcall ⊢
  rw [esv] at hcall ⊢
  cases ht : takesB (absP paths) evs e r.pl with
  | false =>
    rw [ht] at hcall
    have hpost : ∀ w', Below (W.alloc (.cells #[.slice sa sb sc, .slice r.ta r.ps.length r.tc] 163)).heap.size (W.alloc (.cells #[.slice sa sb sc, .slice r.ta r.ps.length r.tc] 163)) w' → TryPost B W N2 av gs r ip n false w' := fun w' hw => ⟨fun _ => hb0.trans (hw.mono hb0.size), fun h => by cases h⟩
    have HP : Hid _ := hpost
    clear hpost h hS hW hip hk0 ht hRN hN2a hN2 hrow
    generalize r.ta = ta at *
    generalize r.ps.length = tb at *
    generalize r.tc = tc at *
    go_enter Tryz.func108, Tryz.ntmps108
    go_wp2_with (go_at_call 109; refine hcall.mono ?_; rintro e w1 ⟨rfl, hb1⟩)
    go_end0
    exact ⟨rfl, HP.out _ hb1⟩
  | true =>
    rw [ht] at hcall
    obtain ⟨aa, ab, ac, eav⟩ := row_form hrow
    have hlen := h.len
    have hN2ap : ∀ z, av.ownBlock = some z → z ≠ N2 := fun z hz e => blk_apart hN2 hrow (by decide) (e ▸ hz)
    have HP : ∀ w1 : World, Below (W.alloc (.cells #[.slice sa sb sc, .slice r.ta r.ps.length r.tc] 163)).heap.size (W.alloc (.cells #[.slice sa sb sc, .slice r.ta r.ps.length r.tc] 163)) w1 →
        Below W.heap.size W w1 ∧ Blk w1 N1 #[.pointer (some ⟨ip, 0, none⟩)] 156 ∧ Blk w1 N2 #[av] 107 ∧ Blk w1 W.heap.size #[.slice sa sb sc, .slice r.ta r.ps.length r.tc] 163 ∧ w1.ownsRow B 163 2 av gs.length (flat MRun.cells gs) ∧ TakenAt w1 r.ta r.tc r.ps := fun w1 hb1 => by
      have hb := hb0.trans (hb1.mono hb0.size)
      exact ⟨hb, hN1a.of_eq (hb1.block _ hN1a.lt), hN2a.of_eq (hb1.block _ hN2a.lt), hRN.of_eq (hb1.block _ hRN.lt), row_of_blk hrow (fun z hz => hb.block z (hrow.lt z hz).2), h.taken.to h.tF (F' := F) (fun b hF hl => ⟨hF, hb.block b hl⟩) hb.size⟩
    have hpost : ∀ (w1 w5 w7 : World) (g5 cap5 g7 cap7 : Nat) (o : Obj), Below W.heap.size W w1 → Below w1.heap.size w1 w5 → w5.ownsRow w1.heap.size 156 1 (.slice (some ⟨g5, 0, none⟩) (r.ps.length + 1) cap5) (r.ps.length + 1) ((r.ps ++ [ip]).map ptrV) → w7.ownsRow B 163 2 (.slice (some ⟨g7, 0, none⟩) (gs.length + 1) cap7) (gs.length + 1) (flat MRun.cells gs ++ [.slice sa sb sc, .slice (some ⟨g5, 0, none⟩) (r.ps.length + 1) cap5]) → (w5.alloc o).grownBy w7 av.ownBlock → (av.ownBlock = some g7 ∨ w5.heap.size ≤ g7) → Blk w7 N2 #[av] 107 →
        TryPost B W N2 av gs r ip n true (w7.setCell ⟨N2, 0, none⟩ (.slice (some ⟨g7, 0, none⟩) (gs.length + 1) cap7)) := by
      intro w1 w5 w7 g5 cap5 g7 cap7 o k1 k2 k3 k4 k5 k6 k7
      have hWs := k1.size
      have hWs2 := k2.size
      have hg5 := (k3.lt g5 rfl)
      have hg57 : g5 ≠ N2 := by have := hN2.lt; omega
      have hc : Chg (fun b => b = N2 ∨ av.ownBlock = some b) W (w7.setCell ⟨N2, 0, none⟩ (.slice (some ⟨g7, 0, none⟩) (gs.length + 1) cap7)) :=
        (((Chg.below (fun b => b = N2 ∨ av.ownBlock = some b) (k1.trans (k2.mono hWs))).alloc o).trans (Chg.grown k5) (fun b _ hb => .inr hb)).setCell (p := ⟨N2, 0, none⟩) (.inl (.inl rfl)) _
      refine ⟨(fun h => by cases h), fun _ => ⟨_, _, _, g5, cap5, by simpa using k7.set 0 (.slice (some ⟨g7, 0, none⟩) (gs.length + 1) cap7), ?_, ?_, hc, fun z hz => ?_⟩⟩
      · rw [List.length_append, flat_snoc]
        have e1 : MRun.cells (withR r g5 cap5 ip n) = [.slice sa sb sc, .slice (some ⟨g5, 0, none⟩) (r.ps.length + 1) cap5] := by unfold MRun.cells withR; rw [esv]; simp
        rw [e1]
        exact row_of_blk k4 fun z hz => Below.heap_setCell _ _ _ _ (fun e => by simp at e; subst e; exact blk_apart k7 k4 (by decide) hz)
      · have k3' : (w7.setCell ⟨N2, 0, none⟩ (.slice (some ⟨g7, 0, none⟩) (gs.length + 1) cap7)).ownsRow w1.heap.size 156 1 (.slice (some ⟨g5, 0, none⟩) (r.ps.length + 1) cap5) (r.ps.length + 1) ((r.ps ++ [ip]).map ptrV) := by
          refine row_of_blk k3 fun z hz => ?_
          have hz5 : g5 = z := by simpa [Value.ownBlock] using hz
          subst hz5
          rw [Below.heap_setCell _ _ _ _ (fun e => hg57 (by simpa using e)), k5.block g5 (by simp; omega) (fun e => ?_), Below.heap_alloc _ _ _ hg5.2]
          have := (hrow.lt g5 e.symm).2
          omega
        exact row_base_le k3' hWs
      · have hz7 : g7 = z := by simpa [Value.ownBlock] using hz
        subst hz7
        rcases k6 with k6 | k6
        · exact .inl k6
        · exact .inr (by omega)
    subst eav
    have HPh : Hid _ := hpost
    have htk : ∀ w1, TakenAt w1 r.ta r.tc r.ps → ∀ V, Below w1.heap.size w1 V → Calls Tryz.prog 110 #[.agg #[.slice sa sb sc, .slice r.ta r.ps.length r.tc], .pointer (some ⟨ip, 0, none⟩)] V fun e w' => ∃ g' cap', e = .returned (.agg #[.slice sa sb sc, .slice (some ⟨g', 0, none⟩) (r.ps.length + 1) cap']) ∧ Below w1.heap.size w1 w' ∧ w'.ownsRow w1.heap.size 156 1 (.slice (some ⟨g', 0, none⟩) (r.ps.length + 1) cap') (r.ps.length + 1) ((r.ps ++ [ip]).map ptrV) := fun w1 hT V hV => by
      refine (with_p (w := V) (hT.to (F := fun b => b < w1.heap.size) (F' := fun _ => True) hT.blk (fun b hb _ => ⟨trivial, hV.block b hb⟩) hV.size) (by omega)).mono ?_
      rintro e w' ⟨g', cap', q1, q2, q3⟩
      exact ⟨g', cap', q1, hV.trans (q2.mono hV.size), row_base_le q3 hV.size⟩
    clear hpost h hS hW hip hk0 ht hRN hN2a hN2 hrow hN1 hlen
    generalize r.ta = ta at *
    generalize hpl : r.ps.length = tb at *
    generalize r.tc = tc at *
    go_enter Tryz.func108, Tryz.ntmps108
    go_upto_region 2 with (go_at_call 109; refine hcall.mono ?_; rintro e w1 ⟨rfl, hb1⟩)
    obtain ⟨p1, p2, p3, p4, p5, p6⟩ := HP w1 hb1
    have hWith := htk w1 p6
    have m1 := p2.cell 0; have m2 := p3.cell 0; have m2f := p3.frozen 0; have m3 := p4.cell 0; have m4 := p4.cell 1
    have ml1 := p2.lt; have ml2 := p3.lt; have ml3 := p4.lt
    simp at m1 m2 m3 m4
    have hBw : B ≤ w1.heap.size := Nat.le_trans hB p1.size
    clear HP htk p2 p4 p6 hcall hb1 hb0 hN1a n1 hNl1
    go_region_law (first
      | (refine step_append_lies _ (by rfl) _ _ 107 (by rfl) B 163 i0 _ 2 48 Tryz.underlying107 hi0 hz0 hz1 hz2 rfl (by decide) _ gs.length (flat MRun.cells gs) (by rfl) (hrow5.alloc _) ⟨w5.heap.size, 0, none⟩ 1 1 [.slice sa sb sc, .slice (some ⟨g5, 0, none⟩) (tb + 1) cap5] (by rfl) rfl (World.news_of_block (alloc_at _ _ _ (by simp))) (by simp [Value.oneCell']) (by decide) (by unfold maxLen; omega) (by omega) (by simp <;> omega) (w5.heap.size + 1) (by simp) ?_; intro g7 cap7 w7 hown7 hgrow7 hat7 hlt7; have hN7 := (hN5.alloc (.cells #[.slice sa sb sc, .slice (some ⟨g5, 0, none⟩) (tb + 1) cap5] 163)).of_eq (hgrow7.block N2 (by simp; omega) (fun e => hN2ap N2 e.symm rfl)); have u0 := hN7.cell 0; have uf := hN7.frozen 0; have hNl7 := hN7.lt; simp at u0)
      | (go_simp; refine (hWith _ (by first | exact Below.refl _ _ | exact ⟨rfl, rfl, rfl, Nat.le_refl _, fun _ _ => rfl⟩)).mono ?_; rintro e w5 ⟨g5, cap5, rfl, hb5, hrow5t⟩; have hN5 := p3.of_eq (hb5.block N2 ml2); have y0 := hN5.cell 0; have yf := hN5.frozen 0; have hNl5 := hN5.lt; simp at y0; have hrow5 := row_of_blk p5 (w' := w5) (fun z hz => hb5.block z (p5.lt z hz).2); have hws5 := hb5.size; show _; dsimp only))
    all_goals
      have hend := HPh.out w1 w5 w7 g5 cap5 g7 cap7 (.cells #[.slice sa sb sc, .slice (some ⟨g5, 0, none⟩) (tb + 1) cap5] 163) p1 hb5 hrow5t hown7 ⟨hgrow7.os, hgrow7.tape, hgrow7.output, hgrow7.size, hgrow7.block⟩ (by rcases hat7 with e | e; exact .inl e; exact .inr (by omega)) hN7
      clear hown7 hgrow7
      go_wp2
      go_end0
      exact ⟨rfl, hend⟩
end Go.Proofs.YtddbjcfdmdbmkaaGreatDoor

namespace Go.Proofs.YtddbjcfdmdbmkaaGreatDoor
open Go.RowKit

theorem getD_snoc_lt {l : List Nat} {x i : Nat} (h : i < l.length) : (l ++ [x]).getD i 0 = l.getD i 0 := by simp [List.getD_eq_getElem?_getD, List.getElem?_append_left h]
theorem getD_snoc_at (l : List Nat) (x : Nat) : (l ++ [x]).getD l.length 0 = x := by simp [List.getD_eq_getElem?_getD]
theorem RunV.snoc {F : Nat → Prop} {w : World} {paths : List (List WStep)} {svs : List Value} {evs : List Ev} {sps : List Nat} {r : MRun} (h : RunV F w paths svs evs sps r) (hl : sps.length = evs.length) (e : Ev) (ip : Nat) : RunV F w paths svs (evs ++ [e]) (sps ++ [ip]) r :=
  ⟨h.path, h.sv, h.steps, by rw [h.ps]; exact List.map_congr_left fun i hi => (getD_snoc_lt (by rw [hl]; exact h.lt i hi)).symm, fun i hi => by have := h.lt i hi; simp; omega, h.taken, h.tF⟩
theorem SeenL.snoc {F : Nat → Prop} {w : World} {evs : List Ev} {sps : List Nat} (h : SeenL F w evs sps) {e : Ev} {ip : Nat} (hs : SeenAt w ip e evs.length) (hF : F ip) : SeenL F w (evs ++ [e]) (sps ++ [ip]) := by
  refine ⟨by simp [h.len], fun i h1 h2 => ?_⟩
  have hl := h.len
  by_cases hi : i < evs.length
  · rw [List.getElem_append_left (by omega), List.getElem_append_left hi]; exact h.ev i hi (by omega)
  · have e1 : i = evs.length := by simp at h1; omega
    subst e1
    rw [List.getElem_append_right (by omega), List.getElem_append_right (by omega)]
    simp only [hl, Nat.sub_self, List.getElem_cons_zero]
    exact ⟨hs, hF, hs.lt⟩
structure GrownAt (F : Nat → Prop) (w : World) (paths : List (List WStep)) (svs : List Value) (evs : List Ev) (sps : List Nat) (e : Ev) (ip N1 N2 : Nat) (done : List (Nat × List Nat)) (wr : World) (F' : Nat → Prop) (av : Value) (gs : List MRun) : Prop where
  bel : Below w.heap.size w wr
  n1 : Blk wr N1 #[.pointer (some ⟨ip, 0, none⟩)] 156
  n2 : Blk wr N2 #[av] 107
  row : wr.ownsRow w.heap.size 163 2 av gs.length (flat MRun.cells gs)
  pl : gs.map MRun.pl = (done.filter (takesB (absP paths) evs e)).map (withP evs.length)
  runs : ∀ r ∈ gs, RunV F' wr paths svs (evs ++ [e]) (sps ++ [ip]) r
  up : ∀ b, F b → F' b
  new : ∀ b, F' b → F b ∨ w.heap.size ≤ b
  lt : ∀ b, F' b → b < wr.heap.size
  f2 : ¬ F' N2
  fa : ∀ g, av.ownBlock = some g → ¬ F' g
theorem GrownAt.keep {F : Nat → Prop} {w : World} {paths : List (List WStep)} {svs : List Value} {evs : List Ev} {sps : List Nat} {e : Ev} {ip N1 N2 : Nat} {done : List (Nat × List Nat)} {wr : World} {F' : Nat → Prop} {av : Value} {gs : List MRun} (h : GrownAt F w paths svs evs sps e ip N1 N2 done wr F' av gs) {w' : World} (hb : Below wr.heap.size wr w') : GrownAt F w paths svs evs sps e ip N1 N2 done w' F' av gs :=
  ⟨h.bel.trans (hb.mono h.bel.size), h.n1.of_eq (hb.block _ h.n1.lt), h.n2.of_eq (hb.block _ h.n2.lt), row_of_blk h.row (fun z hz => hb.block z (h.row.lt z hz).2), h.pl, fun r hr => (h.runs r hr).to (fun b hF hl => ⟨hF, hb.block b hl⟩) hb.size, h.up, h.new, fun b hF => Nat.lt_of_lt_of_le (h.lt b hF) hb.size, h.f2, h.fa⟩
theorem GrownAt.count {F : Nat → Prop} {w : World} {paths : List (List WStep)} {svs : List Value} {evs : List Ev} {sps : List Nat} {e : Ev} {ip N1 N2 : Nat} {done : List (Nat × List Nat)} {wr : World} {F' : Nat → Prop} {av : Value} {gs : List MRun} (h : GrownAt F w paths svs evs sps e ip N1 N2 done wr F' av gs) : gs.length ≤ done.length := by
  have := congrArg List.length h.pl
  rw [List.length_map, List.length_map] at this
  rw [this]; exact List.length_filter_le _ _
theorem GrownAt.step {F : Nat → Prop} {w : World} {paths : List (List WStep)} {svs : List Value} {evs : List Ev} {sps : List Nat} {e : Ev} {ip N1 N2 : Nat} {done : List (Nat × List Nat)} {wr w' : World} {F' : Nat → Prop} {av : Value} {gs : List MRun} {r : MRun} (h : GrownAt F w paths svs evs sps e ip N1 N2 done wr F' av gs) (hr : RunV F' wr paths svs evs sps r) (hS : SeenL F' wr evs sps) (hN12 : N1 < w.heap.size + 2) (hp : TryPost w.heap.size wr N2 av gs r ip evs.length (takesB (absP paths) evs e r.pl) w') (hN : N1 ≠ N2) (hNw : w.heap.size ≤ N2) :
    ∃ F2 a b c gs2, GrownAt F w paths svs evs sps e ip N1 N2 (done ++ [r.pl]) w' F2 (.slice a b c) gs2 ∧ (∀ b, F' b → F2 b) := by
  have hls := hS.len
  cases ht : takesB (absP paths) evs e r.pl with
  | false =>
    rw [ht] at hp
    have hb := hp.no rfl
    have hk := h.keep hb
    obtain ⟨a, b, c, eav⟩ := row_form h.row
    subst eav
    refine ⟨F', a, b, c, gs, ⟨hk.bel, hk.n1, hk.n2, hk.row, ?_, hk.runs, hk.up, hk.new, hk.lt, hk.f2, hk.fa⟩, fun b hb => hb⟩
    rw [h.pl, List.filter_append]
    simp [ht]
  | true =>
    rw [ht] at hp
    obtain ⟨a, b, c, g, cap, q1, q2, q3, q4, q5⟩ := hp.yes rfl
    have hg := q3.lt g rfl
    have hne : ∀ z, F' z → ¬ (z = N2 ∨ av.ownBlock = some z) := fun z hz hm => by
      rcases hm with rfl | hm
      · exact h.f2 hz
      · exact h.fa z hm hz
    have hk : KeepS F' wr (fun z => F' z ∨ z = g) w' := fun z hz hl => ⟨.inl hz, q4.at z hl (hne z hz)⟩
    have hgN : g ≠ N2 := by have := h.n2.lt; omega
    have hav : ∀ z, av.ownBlock = some z → w.heap.size ≤ z := fun z hz => (h.row.lt z hz).1
    refine ⟨fun z => F' z ∨ z = g, a, b, c, gs ++ [withR r g cap ip evs.length], ⟨?_, ?_, q1, q2, ?_, ?_, fun z hz => .inl (h.up z hz), ?_, ?_, ?_, ?_⟩, fun z hz => .inl hz⟩
    · refine ⟨(Kept.os q4).trans h.bel.os, (Kept.tape q4).trans h.bel.tape, (Kept.output q4).trans h.bel.output, Nat.le_trans h.bel.size q4.size, fun k hk => ?_⟩
      rw [q4.at k (Nat.lt_of_lt_of_le hk h.bel.size) (fun hm => by rcases hm with rfl | hm; omega; have := hav k hm; omega)]
      exact h.bel.block k hk
    · refine h.n1.of_eq (q4.at N1 h.n1.lt (fun hm => ?_))
      rcases hm with hm | hm
      · exact hN hm
      · exact blk_apart h.n1 h.row (by decide) hm
    · rw [List.map_append, h.pl, List.filter_append, List.map_append]
      congr 1
      simp [ht, withR]
    · intro x hx
      rcases List.mem_append.1 hx with hx | hx
      · exact (h.runs x hx).to hk q4.size
      · rw [List.mem_singleton.1 hx]
        have hr2 := hr.to hk q4.size
        refine ⟨hr2.path, hr2.sv, hr2.steps, ?_, fun i hi => ?_, ?_, fun t et => ?_⟩
        · show r.ps ++ [ip] = (r.pl.2 ++ [evs.length]).map ((sps ++ [ip]).getD · 0)
          rw [List.map_append, hr.ps]
          congr 1
          · exact List.map_congr_left fun i hi => (getD_snoc_lt (by rw [hls]; exact hr.lt i hi)).symm
          · show [ip] = [(sps ++ [ip]).getD evs.length 0]
            rw [← hls, getD_snoc_at]
        · have hi' : i ∈ r.pl.2 ++ [evs.length] := hi
          rw [List.length_append]
          rcases List.mem_append.1 hi' with hi' | hi'
          · have := hr.lt i hi'; simp; omega
          · rw [List.mem_singleton.1 hi']; simp
        · show TakenAt w' (some ⟨g, 0, none⟩) cap (r.ps ++ [ip])
          have hcap : r.ps.length + 1 ≤ cap := by
            rcases q3.2 with ⟨e, _⟩ | ⟨g', cap', cur, he, _, hgg, hn, _⟩
            · cases e
            · cases he; exact hn
          refine .inr ⟨by simpa using hcap, g, rfl, hg.2, fun i hi => ?_⟩
          have := q3.cells (g := g) rfl i (ptrV (r.ps ++ [ip])[i]) (by rw [List.getElem?_map, List.getElem?_eq_getElem hi]; rfl)
          rw [addr_add, Nat.zero_add] at this; exact this
        · have et' : some (⟨g, 0, none⟩ : Addr) = some t := et
          cases et'; exact .inr rfl
    · intro z hz
      rcases hz with hz | rfl
      · exact h.new z hz
      · exact .inr (Nat.le_trans h.bel.size hg.1)
    · intro z hz
      rcases hz with hz | rfl
      · exact Nat.lt_of_lt_of_le (h.lt z hz) q4.size
      · exact hg.2
    · rintro (hz | hz)
      · exact h.f2 hz
      · exact hgN hz.symm
    · intro z hz hm
      rcases hm with hm | rfl
      · rcases q5 z hz with q | q
        · exact h.fa z q hm
        · exact absurd (h.lt z hm) (by omega)
      · exact rows_apart q2 q3 (by decide) z hz rfl
end Go.Proofs.YtddbjcfdmdbmkaaGreatDoor
