import Derived.Test.YtddbjcfdmdbmkaaGreatDoorB27
set_option linter.unusedVariables false
set_option linter.unusedSimpArgs false
/-
  The program's paths: eachBehind, the walk.
-/
namespace Go.Proofs.YtddbjcfdmdbmkaaGreatDoor
open Go.RowKit

theorem eachP_len (hs ts : List (List PPart)) : (eachP hs ts).length = hs.length * ts.length := by
  unfold eachP
  induction hs with
  | nil => simp
  | cons h hs ih => rw [List.flatMap_cons, List.length_append, ih, List.length_map, List.length_cons, Nat.succ_mul, Nat.add_comm]
theorem eachP_succ (hs ts : List (List PPart)) (k : Nat) (h : k < hs.length) : eachP (hs.take (k + 1)) ts = eachP (hs.take k) ts ++ ts.map (hs[k] ++ ·) := by
  unfold eachP; rw [List.take_succ_eq_append_getElem h, List.flatMap_append]; simp
theorem map_succ (x : List PPart) (ts : List (List PPart)) (j : Nat) (h : j < ts.length) : (ts.take (j + 1)).map (x ++ ·) = (ts.take j).map (x ++ ·) ++ [x ++ ts[j]] := by
  rw [List.take_succ_eq_append_getElem h, List.map_append]; rfl

set_option maxRecDepth 100000 in
set_option maxHeartbeats 1600000 in
theorem eachBehind_p {own : Nat → Nat} {w : World} {hv tv : Value} {hs ts : List (List PPart)} (hH : PathsLie own w hv hs) (hT : PathsLie own w tv ts) (h0 : 0 < hs.length) (t0 : 0 < ts.length) (hne : ∀ t ∈ ts, t ≠ []) (hb : hs.length * ts.length ≤ 1000000)
    (hhl : ∀ h ∈ hs, h.length ≤ 100000) (htl : ∀ t ∈ ts, t.length ≤ 100000) :
    Calls Tryz.prog 134 #[hv, tv] w fun e w' => ∃ v, e = .returned v ∧ ∃ own', Ext own w own' w' ∧ PathsLie own' w' v (eachP hs ts) := by
  obtain ⟨gh, ch, rfl, hgh, hoh, hcellh⟩ := hH.open h0
  obtain ⟨gt, ct, rfl, hgt, hot, hcellt⟩ := hT.open t0
  have hhs : hs.length ≤ 1000000 := Nat.le_trans (Nat.le_mul_of_pos_right _ t0) hb
  have hts : ts.length ≤ 1000000 := Nat.le_trans (Nat.le_mul_of_pos_left _ h0) hb
  obtain ⟨i0, hi0, hz0, hz1, hz2⟩ := info_parts Tryz.infoPath
  clear hH hT
  go_enter Tryz.func134, Tryz.ntmps134
  go_wp2
  go_loopw [5, 12] (fun v i wr => ∃ (k : Nat) (own' : Nat → Nat) (vs : List Value), k ≤ hs.length ∧ i = .int .i64 k ∧ EB own w v own' (eachP (hs.take k) ts) vs wr) (fun _ i _ => hs.length - (intOf i).toNat)
  case atStart => exact ⟨0, own, [], Nat.zero_le _, rfl, EB.start own w⟩
  case round =>
    obtain ⟨k, own', vs, hk, rfl, hEB⟩ := hrel
    obtain ⟨a, b, c, rfl⟩ := row_form hEB.row
    obtain ⟨wo, rfl⟩ : ∃ x, x = wr := ⟨_, rfl⟩
    by_cases hlt : k < hs.length
    · obtain ⟨pv, hpc, hpN⟩ := hcellh k hlt
      have eh := hEB.ext.kept.block gh ⟨hgh, by rw [hoh]; decide⟩
      have hpc' := (cell_eq eh k).trans hpc
      have hlk := hhl _ (List.getElem_mem hlt)
      have HS : Hid (eachP (hs.take (k + 1)) ts = eachP (hs.take k) ts ++ ts.map (hs[k] ++ ·)) := eachP_succ hs ts k hlt
      have HL : Hid ((eachP (hs.take k) ts).length + ts.length ≤ 1000000) := by
        show _ ≤ _
        rw [eachP_len, List.length_take, Nat.min_eq_left hk, ← Nat.succ_mul]
        exact Nat.le_trans (Nat.mul_le_mul_right _ hlt) hb
      obtain ⟨pa, pb, pc, rfl⟩ := hpN.1.form
      have hki : (k : Int) < (hs.length : Int) := by omega
      have hk0 : (0 : Int) ≤ (k : Int) := by omega
      have hE0 : EB own w (.slice a b c) own' (eachP (hs.take k) ts ++ (ts.take 0).map (hs[k] ++ ·)) vs wo := by simpa using hEB
      clear hEB hpc
      generalize hs[k] = hd at *
      generalize eachP (hs.take k) ts = pre at *
      go_wp2
      go_loopw [5, 18] (fun v i wr => ∃ (j : Nat) (own2 : Nat → Nat) (vs2 : List Value), j ≤ ts.length ∧ i = .int .i64 j ∧ EB own w v own2 (pre ++ (ts.take j).map (hd ++ ·)) vs2 wr) (fun _ i _ => ts.length - (intOf i).toNat)
      case atStart => exact ⟨0, own', vs, Nat.zero_le _, rfl, hE0⟩
      case round =>
        obtain ⟨j, own2, vs2, hj, rfl, hEB2⟩ := hrel
        clear hE0
        obtain ⟨a2, b2, c2, rfl⟩ := row_form hEB2.row
        by_cases hjl : j < ts.length
        · obtain ⟨qv, hqc, hqN⟩ := hcellt j hjl
          have et := hEB2.ext.kept.block gt ⟨hgt, by rw [hot]; decide⟩
          have hqc' := (cell_eq et j).trans hqc
          have hcat := cat_p ⟨hpN.1.ext hEB2.ext, hpN.2⟩ ⟨hqN.1.ext hEB2.ext, hqN.2⟩ (hne _ (List.getElem_mem hjl)) (by have := htl _ (List.getElem_mem hjl); omega)
          have HM : Hid (pre ++ (ts.take (j + 1)).map (hd ++ ·) = (pre ++ (ts.take j).map (hd ++ ·)) ++ [hd ++ ts[j]]) := by show _ = _; rw [map_succ hd ts j hjl, List.append_assoc]
          have hal : (pre ++ (ts.take j).map (hd ++ ·)).length ≤ 1000000 := by have := HL.out; simp; omega
          obtain ⟨qa, qb, qc, rfl⟩ := hqN.1.form
          have hji : (j : Int) < (ts.length : Int) := by omega
          have hj0 : (0 : Int) ≤ (j : Int) := by omega
          clear hqc et
          generalize ts[j] = tl at *
          generalize pre ++ (ts.take j).map (hd ++ ·) = acc at *
          go_wp2_with (first
            | (go_at_call 170; refine hcat.mono ?_; rintro e w3 ⟨pv3, rfl, own3, he3, hN3⟩; obtain ⟨ra, rb, rc, rfl⟩ := hN3.1.form; have hEB3 := hEB2.next he3)
            | (at_builtin; refine wpList_append_lies _ rfl (.tmp 22) (.tmp 27) 65 rfl 0 111 i0 _ 1 24 Tryz.underlying65 hi0 hz0 hz1 hz2 rfl (by decide) _ acc.length vs2 (by rfl) (hEB3.row.alloc _) ⟨w3.heap.size, 0, none⟩ 1 1 [.slice ra rb rc] (by rfl) rfl (World.news_of_block (alloc_at _ _ _ (by simp))) (by simp [Value.oneCell']) (by decide) (by unfold maxLen; omega) (by omega) (Nat.zero_le _) (w3.heap.size + 1) (by simp) ?_; intro g cap w4 hown hgrow hat hlt4))
          have hEB4 := hEB3.app hN3 hown hgrow (by simpa using hat)
          go_roundw
          case rel => exact ⟨j + 1, _, _, hjl, by go_num, by rw [HM.out]; exact hEB4⟩
          case measure => simp [intOf]; omega
        · have ej : j = ts.length := by omega
          subst ej
          go_wp2
          go_roundw
          case rel => exact ⟨k + 1, own2, vs2, hlt, by go_num, by rw [HS.out]; simpa using hEB2⟩
          case measure => simp [intOf]; omega
    · have ek : k = hs.length := by omega
      subst ek
      have HE : Hid (hs.take hs.length = hs) := List.take_length
      rw [HE.out] at hEB
      go_wp2
      go_ret
      exact ⟨_, rfl, hEB.done⟩
end Go.Proofs.YtddbjcfdmdbmkaaGreatDoor

/-
  The program's paths: slices.Repeat of one part.
-/
namespace Go.Proofs.YtddbjcfdmdbmkaaGreatDoor
open Go.RowKit

set_option maxRecDepth 100000 in
set_option maxHeartbeats 800000 in
theorem mul_1 (w : World) : Calls Tryz.prog 204 #[.int .u64 1, .int .u64 1] w fun e w' => e = .returned (.tuple #[.int .u64 0, .int .u64 1]) ∧ w' = w := by
  go_enter Tryz.func204, Tryz.ntmps204
  go_wp2
  go_ret2
  exact ⟨by kernel_rfl, rfl⟩
set_option maxRecDepth 100000 in
set_option maxHeartbeats 800000 in
theorem mul_2 (w : World) : Calls Tryz.prog 204 #[.int .u64 1, .int .u64 2] w fun e w' => e = .returned (.tuple #[.int .u64 0, .int .u64 2]) ∧ w' = w := by
  go_enter Tryz.func204, Tryz.ntmps204
  go_wp2
  go_ret2
  exact ⟨by kernel_rfl, rfl⟩
set_option maxRecDepth 100000 in
set_option maxHeartbeats 800000 in
theorem mul_3 (w : World) : Calls Tryz.prog 204 #[.int .u64 1, .int .u64 3] w fun e w' => e = .returned (.tuple #[.int .u64 0, .int .u64 3]) ∧ w' = w := by
  go_enter Tryz.func204, Tryz.ntmps204
  go_wp2
  go_ret2
  exact ⟨by kernel_rfl, rfl⟩
set_option maxRecDepth 100000 in
set_option maxHeartbeats 800000 in
theorem mul_4 (w : World) : Calls Tryz.prog 204 #[.int .u64 1, .int .u64 4] w fun e w' => e = .returned (.tuple #[.int .u64 0, .int .u64 4]) ∧ w' = w := by
  go_enter Tryz.func204, Tryz.ntmps204
  go_wp2
  go_ret2
  exact ⟨by kernel_rfl, rfl⟩
theorem make_1 (w : World) : (Instr.makeSlice 111 (.int .i64 1) (.int .i64 1)).run Tryz.prog w = .ok (.slice (some ⟨w.heap.size, 0, none⟩) 1 1) (w.alloc (.cells #[.string ⟨#[]⟩, .int .i64 0, .int .i64 0, .int .i64 0, .slice none 0 0, .slice none 0 0] 189)) := by kernel_rfl
theorem make_2 (w : World) : (Instr.makeSlice 111 (.int .i64 2) (.int .i64 2)).run Tryz.prog w = .ok (.slice (some ⟨w.heap.size, 0, none⟩) 2 2) (w.alloc (.cells #[.string ⟨#[]⟩, .int .i64 0, .int .i64 0, .int .i64 0, .slice none 0 0, .slice none 0 0, .string ⟨#[]⟩, .int .i64 0, .int .i64 0, .int .i64 0, .slice none 0 0, .slice none 0 0] 189)) := by kernel_rfl
theorem make_3 (w : World) : (Instr.makeSlice 111 (.int .i64 3) (.int .i64 3)).run Tryz.prog w = .ok (.slice (some ⟨w.heap.size, 0, none⟩) 3 3) (w.alloc (.cells #[.string ⟨#[]⟩, .int .i64 0, .int .i64 0, .int .i64 0, .slice none 0 0, .slice none 0 0, .string ⟨#[]⟩, .int .i64 0, .int .i64 0, .int .i64 0, .slice none 0 0, .slice none 0 0, .string ⟨#[]⟩, .int .i64 0, .int .i64 0, .int .i64 0, .slice none 0 0, .slice none 0 0] 189)) := by kernel_rfl
theorem make_4 (w : World) : (Instr.makeSlice 111 (.int .i64 4) (.int .i64 4)).run Tryz.prog w = .ok (.slice (some ⟨w.heap.size, 0, none⟩) 4 4) (w.alloc (.cells #[.string ⟨#[]⟩, .int .i64 0, .int .i64 0, .int .i64 0, .slice none 0 0, .slice none 0 0, .string ⟨#[]⟩, .int .i64 0, .int .i64 0, .int .i64 0, .slice none 0 0, .slice none 0 0, .string ⟨#[]⟩, .int .i64 0, .int .i64 0, .int .i64 0, .slice none 0 0, .slice none 0 0, .string ⟨#[]⟩, .int .i64 0, .int .i64 0, .int .i64 0, .slice none 0 0, .slice none 0 0] 189)) := by kernel_rfl

theorem copy_rows (w : World) (g o dLen dCap : Nat) (a : Addr) (sLen sCap k : Nat) (cur : Array Value) (t : TypeId) (cs : List Value)
    (hg : w.heap[g]? = some (.cells cur t (0, 0))) (hk : k = Nat.min sLen dLen) (hn : cs.length = k * 6)
    (hsrc : ∀ j v, cs[j]? = some v → w.cell? (a.add j) = some v) (hfit : o + cs.length ≤ cur.size) (h1 : ∀ v ∈ cs, v.oneCell' = true) :
    (Builtin.copy_ #[111, 111] 3 #[.slice (some ⟨g, o, none⟩) dLen dCap, .slice (some a) sLen sCap]).run Tryz.prog w =
      .ok (goInt k) (w.setRow g (cur.toList.take o ++ cs ++ cur.toList.drop (o + cs.length)).toArray) := by
  have hl := run_loadCells_list (P := Tryz.prog) w a cs hsrc
  have hst := run_storeCells_at Tryz.prog g o t cs 0 cur w hg (by simpa using hfit) h1
  obtain ⟨i0, hi0, hz0, hz1, hz2⟩ := info_parts Tryz.infoPart
  rw [hn] at hl
  simp [Builtin.copy_, run_underlying Tryz.underlying111, Builtin.lenOf, Builtin.firstCells, sizeOf, typeInfo, hi0, hz1, ← hk, hl, hst]

theorem setRow_new (w : World) (cur new : Array Value) (t : TypeId) : (w.alloc (.cells cur t)).setRow w.heap.size new = w.alloc (.cells new t) := by
  unfold World.setRow World.alloc
  simp only [World.mk.injEq, true_and, and_true]
  apply Array.ext
  · simp
  · intro i h1 h2
    simp only [Array.getElem_modify, Array.getElem_push]
    by_cases e : w.heap.size = i
    · subst e; simp
    · have : i < w.heap.size := by simp at h2; omega
      simp [e, this]
/-- a copy inside a new row -/
theorem copy_new (w : World) (cur : Array Value) (o dLen dCap : Nat) (a : Addr) (sLen sCap k : Nat) (cs : List Value) (new : Array Value) (hk : k = Nat.min sLen dLen) (hn : cs.length = k * 6)
    (hsrc : ∀ j v, cs[j]? = some v → (w.alloc (.cells cur 189)).cell? (a.add j) = some v) (hfit : o + cs.length ≤ cur.size) (h1 : ∀ v ∈ cs, v.oneCell' = true) (hnew : (cur.toList.take o ++ cs ++ cur.toList.drop (o + cs.length)).toArray = new) :
    (Builtin.copy_ #[111, 111] 3 #[.slice (some ⟨w.heap.size, o, none⟩) dLen dCap, .slice (some a) sLen sCap]).run Tryz.prog (w.alloc (.cells cur 189)) = .ok (goInt k) (w.alloc (.cells new 189)) := by
  rw [copy_rows _ _ _ _ _ a sLen sCap k cur 189 cs (heap_alloc_new w _) hk hn hsrc hfit h1, hnew, setRow_new]

set_option maxRecDepth 100000 in
set_option maxHeartbeats 1600000 in
theorem repeat_1 {w : World} {B : Nat} {v0 v1 v2 v3 v4 v5 : Value} (hB : Blk w B #[v0, v1, v2, v3, v4, v5] 189) (o : ∀ u ∈ [v0, v1, v2, v3, v4, v5], u.oneCell' = true) :
    Calls Tryz.prog 171 #[.slice (some ⟨B, 0, none⟩) 1 1, .int .i64 1] w fun e w' => ∃ v, e = .returned v ∧ w'.ownsRow w.heap.size 189 6 v 1 [v0, v1, v2, v3, v4, v5] ∧ Below w.heap.size w w' := by
  have hmk := make_1
  have hcp := copy_new w #[.string ⟨#[]⟩, .int .i64 0, .int .i64 0, .int .i64 0, .slice none 0 0, .slice none 0 0] 0 1 1 ⟨B, 0, none⟩ 1 1 1 [v0, v1, v2, v3, v4, v5] #[v0, v1, v2, v3, v4, v5] rfl rfl (fun j u hu => by rw [addr_add, Nat.zero_add, (hB.alloc _).cell]; simpa using hu) (by simp) o rfl
  go_enter Tryz.func171, Tryz.ntmps171
  go_wp2_with (go_at_call 204; refine (mul_1 _).mono ?_; rintro e w1 ⟨rfl, he⟩; rw [he]; clear he)
  go_loopw [8] (fun n wr => n = .int .i64 1 ∧ wr = w.alloc (.cells #[v0, v1, v2, v3, v4, v5] 189)) (fun _ _ => 0)
  case atStart => exact ⟨rfl, rfl⟩
  case round =>
    obtain ⟨rfl, rfl⟩ := hrel
    go_wp2
    go_ret
    exact ⟨_, rfl, ⟨rfl, .inr ⟨w.heap.size, 1, _, rfl, Nat.le_refl _, heap_alloc_new w _, Nat.le_refl _, by unfold maxLen; decide, rfl, rfl⟩⟩, (Below.refl _ _).alloc (Nat.le_refl _) _⟩
theorem pre_get {a b : List Value} {j : Nat} {u : Value} (h : a[j]? = some u) : ((a ++ b).toArray)[j]? = some u := by
  have hj : j < a.length := (List.getElem?_eq_some_iff.1 h).1
  simp [List.getElem?_append_left hj, h]
theorem below_drew1 (w : World) (o : Obj) : Below w.heap.size w (w.alloc o).drew := below_grown ((Below.refl _ _).alloc (Nat.le_refl _) _) (grownBy_drew _ none) (fun g e => by cases e)
theorem below_drew2 (w : World) (o : Obj) : Below w.heap.size w (w.alloc o).drew.drew := below_grown (below_drew1 w o) (grownBy_drew _ none) (fun g e => by cases e)
set_option maxRecDepth 100000 in
set_option maxHeartbeats 3200000 in
theorem repeat_2 {w : World} {B : Nat} {v0 v1 v2 v3 v4 v5 : Value} (hB : Blk w B #[v0, v1, v2, v3, v4, v5] 189) (o : ∀ u ∈ [v0, v1, v2, v3, v4, v5], u.oneCell' = true) :
    Calls Tryz.prog 171 #[.slice (some ⟨B, 0, none⟩) 1 1, .int .i64 2] w fun e w' => ∃ v, e = .returned v ∧ w'.ownsRow w.heap.size 189 6 v 2 [v0, v1, v2, v3, v4, v5, v0, v1, v2, v3, v4, v5] ∧ Below w.heap.size w w' := by
  have hmk := make_2
  have hcp := copy_new w #[.string ⟨#[]⟩, .int .i64 0, .int .i64 0, .int .i64 0, .slice none 0 0, .slice none 0 0, .string ⟨#[]⟩, .int .i64 0, .int .i64 0, .int .i64 0, .slice none 0 0, .slice none 0 0] 0 2 2 ⟨B, 0, none⟩ 1 1 1 [v0, v1, v2, v3, v4, v5] #[v0, v1, v2, v3, v4, v5, .string ⟨#[]⟩, .int .i64 0, .int .i64 0, .int .i64 0, .slice none 0 0, .slice none 0 0] rfl rfl (fun j u hu => by rw [addr_add, Nat.zero_add, (hB.alloc _).cell]; simpa using hu) (by simp) o rfl
  have hcp1 : (Builtin.copy_ #[111, 111] 3 #[.slice (some ⟨w.heap.size, 6, none⟩) 1 1, .slice (some ⟨w.heap.size, 0, none⟩) 1 2]).run Tryz.prog ((w.alloc (.cells #[v0, v1, v2, v3, v4, v5, .string ⟨#[]⟩, .int .i64 0, .int .i64 0, .int .i64 0, .slice none 0 0, .slice none 0 0] 189)).drew) = .ok (goInt 1) ((w.alloc (.cells #[v0, v1, v2, v3, v4, v5, v0, v1, v2, v3, v4, v5] 189)).drew) :=
    copy_new (w.drew) #[v0, v1, v2, v3, v4, v5, .string ⟨#[]⟩, .int .i64 0, .int .i64 0, .int .i64 0, .slice none 0 0, .slice none 0 0] 6 1 1 ⟨w.heap.size, 0, none⟩ 1 2 1 [v0, v1, v2, v3, v4, v5] #[v0, v1, v2, v3, v4, v5, v0, v1, v2, v3, v4, v5] rfl rfl (fun j u hu => by rw [addr_add, Nat.zero_add]; refine ((Blk.new (w.drew) #[v0, v1, v2, v3, v4, v5, .string ⟨#[]⟩, .int .i64 0, .int .i64 0, .int .i64 0, .slice none 0 0, .slice none 0 0] 189).cell j).trans ?_; exact pre_get hu) (by simp) o rfl
  go_enter Tryz.func171, Tryz.ntmps171
  go_wp2_with (go_at_call 204; refine (mul_2 _).mono ?_; rintro e w1 ⟨rfl, he⟩; rw [he]; clear he)
  go_loopw [8] (fun n wr => (n = .int .i64 1 ∧ wr = (w.alloc (.cells #[v0, v1, v2, v3, v4, v5, .string ⟨#[]⟩, .int .i64 0, .int .i64 0, .int .i64 0, .slice none 0 0, .slice none 0 0] 189))) ∨ (n = .int .i64 2 ∧ wr = (w.alloc (.cells #[v0, v1, v2, v3, v4, v5, v0, v1, v2, v3, v4, v5] 189)).drew)) (fun n _ => 2 - (intOf n).toNat)
  case atStart => exact .inl ⟨rfl, rfl⟩
  case round =>
    rcases hrel with ⟨rfl, rfl⟩ | ⟨rfl, rfl⟩
    · go_wp2
      go_region
      go_wp2
      go_roundw
      case rel => exact .inr (⟨rfl, trivial⟩)
      case measure => simp [intOf]
    · go_wp2
      go_ret
      exact ⟨_, rfl, ⟨rfl, .inr ⟨w.heap.size, 2, _, rfl, Nat.le_refl _, heap_alloc_new (w.drew) _, Nat.le_refl _, by unfold maxLen; decide, rfl, rfl⟩⟩, below_drew1 w _⟩
set_option maxRecDepth 100000 in
set_option maxHeartbeats 3200000 in
theorem repeat_3 {w : World} {B : Nat} {v0 v1 v2 v3 v4 v5 : Value} (hB : Blk w B #[v0, v1, v2, v3, v4, v5] 189) (o : ∀ u ∈ [v0, v1, v2, v3, v4, v5], u.oneCell' = true) :
    Calls Tryz.prog 171 #[.slice (some ⟨B, 0, none⟩) 1 1, .int .i64 3] w fun e w' => ∃ v, e = .returned v ∧ w'.ownsRow w.heap.size 189 6 v 3 [v0, v1, v2, v3, v4, v5, v0, v1, v2, v3, v4, v5, v0, v1, v2, v3, v4, v5] ∧ Below w.heap.size w w' := by
  have hmk := make_3
  have hcp := copy_new w #[.string ⟨#[]⟩, .int .i64 0, .int .i64 0, .int .i64 0, .slice none 0 0, .slice none 0 0, .string ⟨#[]⟩, .int .i64 0, .int .i64 0, .int .i64 0, .slice none 0 0, .slice none 0 0, .string ⟨#[]⟩, .int .i64 0, .int .i64 0, .int .i64 0, .slice none 0 0, .slice none 0 0] 0 3 3 ⟨B, 0, none⟩ 1 1 1 [v0, v1, v2, v3, v4, v5] #[v0, v1, v2, v3, v4, v5, .string ⟨#[]⟩, .int .i64 0, .int .i64 0, .int .i64 0, .slice none 0 0, .slice none 0 0, .string ⟨#[]⟩, .int .i64 0, .int .i64 0, .int .i64 0, .slice none 0 0, .slice none 0 0] rfl rfl (fun j u hu => by rw [addr_add, Nat.zero_add, (hB.alloc _).cell]; simpa using hu) (by simp) o rfl
  have hcp1 : (Builtin.copy_ #[111, 111] 3 #[.slice (some ⟨w.heap.size, 6, none⟩) 2 2, .slice (some ⟨w.heap.size, 0, none⟩) 1 3]).run Tryz.prog ((w.alloc (.cells #[v0, v1, v2, v3, v4, v5, .string ⟨#[]⟩, .int .i64 0, .int .i64 0, .int .i64 0, .slice none 0 0, .slice none 0 0, .string ⟨#[]⟩, .int .i64 0, .int .i64 0, .int .i64 0, .slice none 0 0, .slice none 0 0] 189)).drew) = .ok (goInt 1) ((w.alloc (.cells #[v0, v1, v2, v3, v4, v5, v0, v1, v2, v3, v4, v5, .string ⟨#[]⟩, .int .i64 0, .int .i64 0, .int .i64 0, .slice none 0 0, .slice none 0 0] 189)).drew) :=
    copy_new (w.drew) #[v0, v1, v2, v3, v4, v5, .string ⟨#[]⟩, .int .i64 0, .int .i64 0, .int .i64 0, .slice none 0 0, .slice none 0 0, .string ⟨#[]⟩, .int .i64 0, .int .i64 0, .int .i64 0, .slice none 0 0, .slice none 0 0] 6 2 2 ⟨w.heap.size, 0, none⟩ 1 3 1 [v0, v1, v2, v3, v4, v5] #[v0, v1, v2, v3, v4, v5, v0, v1, v2, v3, v4, v5, .string ⟨#[]⟩, .int .i64 0, .int .i64 0, .int .i64 0, .slice none 0 0, .slice none 0 0] rfl rfl (fun j u hu => by rw [addr_add, Nat.zero_add]; refine ((Blk.new (w.drew) #[v0, v1, v2, v3, v4, v5, .string ⟨#[]⟩, .int .i64 0, .int .i64 0, .int .i64 0, .slice none 0 0, .slice none 0 0, .string ⟨#[]⟩, .int .i64 0, .int .i64 0, .int .i64 0, .slice none 0 0, .slice none 0 0] 189).cell j).trans ?_; exact pre_get hu) (by simp) o rfl
  have hcp2 : (Builtin.copy_ #[111, 111] 3 #[.slice (some ⟨w.heap.size, 12, none⟩) 1 1, .slice (some ⟨w.heap.size, 0, none⟩) 2 3]).run Tryz.prog ((w.alloc (.cells #[v0, v1, v2, v3, v4, v5, v0, v1, v2, v3, v4, v5, .string ⟨#[]⟩, .int .i64 0, .int .i64 0, .int .i64 0, .slice none 0 0, .slice none 0 0] 189)).drew.drew) = .ok (goInt 1) ((w.alloc (.cells #[v0, v1, v2, v3, v4, v5, v0, v1, v2, v3, v4, v5, v0, v1, v2, v3, v4, v5] 189)).drew.drew) :=
    copy_new (w.drew.drew) #[v0, v1, v2, v3, v4, v5, v0, v1, v2, v3, v4, v5, .string ⟨#[]⟩, .int .i64 0, .int .i64 0, .int .i64 0, .slice none 0 0, .slice none 0 0] 12 1 1 ⟨w.heap.size, 0, none⟩ 2 3 1 [v0, v1, v2, v3, v4, v5] #[v0, v1, v2, v3, v4, v5, v0, v1, v2, v3, v4, v5, v0, v1, v2, v3, v4, v5] rfl rfl (fun j u hu => by rw [addr_add, Nat.zero_add]; refine ((Blk.new (w.drew.drew) #[v0, v1, v2, v3, v4, v5, v0, v1, v2, v3, v4, v5, .string ⟨#[]⟩, .int .i64 0, .int .i64 0, .int .i64 0, .slice none 0 0, .slice none 0 0] 189).cell j).trans ?_; exact pre_get hu) (by simp) o rfl
  go_enter Tryz.func171, Tryz.ntmps171
  go_wp2_with (go_at_call 204; refine (mul_3 _).mono ?_; rintro e w1 ⟨rfl, he⟩; rw [he]; clear he)
  go_loopw [8] (fun n wr => (n = .int .i64 1 ∧ wr = (w.alloc (.cells #[v0, v1, v2, v3, v4, v5, .string ⟨#[]⟩, .int .i64 0, .int .i64 0, .int .i64 0, .slice none 0 0, .slice none 0 0, .string ⟨#[]⟩, .int .i64 0, .int .i64 0, .int .i64 0, .slice none 0 0, .slice none 0 0] 189))) ∨ (n = .int .i64 2 ∧ wr = (w.alloc (.cells #[v0, v1, v2, v3, v4, v5, v0, v1, v2, v3, v4, v5, .string ⟨#[]⟩, .int .i64 0, .int .i64 0, .int .i64 0, .slice none 0 0, .slice none 0 0] 189)).drew) ∨ (n = .int .i64 3 ∧ wr = (w.alloc (.cells #[v0, v1, v2, v3, v4, v5, v0, v1, v2, v3, v4, v5, v0, v1, v2, v3, v4, v5] 189)).drew.drew)) (fun n _ => 3 - (intOf n).toNat)
  case atStart => exact .inl ⟨rfl, rfl⟩
  case round =>
    rcases hrel with ⟨rfl, rfl⟩ | ⟨rfl, rfl⟩ | ⟨rfl, rfl⟩
    · go_wp2
      go_region
      go_wp2
      go_roundw
      case rel => exact .inr (.inl ⟨rfl, trivial⟩)
      case measure => simp [intOf]
    · go_wp2
      go_region
      go_wp2
      go_roundw
      case rel => exact .inr (.inr (⟨rfl, trivial⟩))
      case measure => simp [intOf]
    · go_wp2
      go_ret
      exact ⟨_, rfl, ⟨rfl, .inr ⟨w.heap.size, 3, _, rfl, Nat.le_refl _, heap_alloc_new (w.drew.drew) _, Nat.le_refl _, by unfold maxLen; decide, rfl, rfl⟩⟩, below_drew2 w _⟩
set_option maxRecDepth 100000 in
set_option maxHeartbeats 3200000 in
theorem repeat_4 {w : World} {B : Nat} {v0 v1 v2 v3 v4 v5 : Value} (hB : Blk w B #[v0, v1, v2, v3, v4, v5] 189) (o : ∀ u ∈ [v0, v1, v2, v3, v4, v5], u.oneCell' = true) :
    Calls Tryz.prog 171 #[.slice (some ⟨B, 0, none⟩) 1 1, .int .i64 4] w fun e w' => ∃ v, e = .returned v ∧ w'.ownsRow w.heap.size 189 6 v 4 [v0, v1, v2, v3, v4, v5, v0, v1, v2, v3, v4, v5, v0, v1, v2, v3, v4, v5, v0, v1, v2, v3, v4, v5] ∧ Below w.heap.size w w' := by
  have hmk := make_4
  have oo : ∀ u ∈ [v0, v1, v2, v3, v4, v5, v0, v1, v2, v3, v4, v5], u.oneCell' = true := fun u hu => by rcases List.mem_append.1 (show u ∈ [v0, v1, v2, v3, v4, v5] ++ [v0, v1, v2, v3, v4, v5] from hu) with h | h <;> exact o u h
  have hcp := copy_new w #[.string ⟨#[]⟩, .int .i64 0, .int .i64 0, .int .i64 0, .slice none 0 0, .slice none 0 0, .string ⟨#[]⟩, .int .i64 0, .int .i64 0, .int .i64 0, .slice none 0 0, .slice none 0 0, .string ⟨#[]⟩, .int .i64 0, .int .i64 0, .int .i64 0, .slice none 0 0, .slice none 0 0, .string ⟨#[]⟩, .int .i64 0, .int .i64 0, .int .i64 0, .slice none 0 0, .slice none 0 0] 0 4 4 ⟨B, 0, none⟩ 1 1 1 [v0, v1, v2, v3, v4, v5] #[v0, v1, v2, v3, v4, v5, .string ⟨#[]⟩, .int .i64 0, .int .i64 0, .int .i64 0, .slice none 0 0, .slice none 0 0, .string ⟨#[]⟩, .int .i64 0, .int .i64 0, .int .i64 0, .slice none 0 0, .slice none 0 0, .string ⟨#[]⟩, .int .i64 0, .int .i64 0, .int .i64 0, .slice none 0 0, .slice none 0 0] rfl rfl (fun j u hu => by rw [addr_add, Nat.zero_add, (hB.alloc _).cell]; simpa using hu) (by simp) o rfl
  have hcp1 : (Builtin.copy_ #[111, 111] 3 #[.slice (some ⟨w.heap.size, 6, none⟩) 3 3, .slice (some ⟨w.heap.size, 0, none⟩) 1 4]).run Tryz.prog ((w.alloc (.cells #[v0, v1, v2, v3, v4, v5, .string ⟨#[]⟩, .int .i64 0, .int .i64 0, .int .i64 0, .slice none 0 0, .slice none 0 0, .string ⟨#[]⟩, .int .i64 0, .int .i64 0, .int .i64 0, .slice none 0 0, .slice none 0 0, .string ⟨#[]⟩, .int .i64 0, .int .i64 0, .int .i64 0, .slice none 0 0, .slice none 0 0] 189)).drew) = .ok (goInt 1) ((w.alloc (.cells #[v0, v1, v2, v3, v4, v5, v0, v1, v2, v3, v4, v5, .string ⟨#[]⟩, .int .i64 0, .int .i64 0, .int .i64 0, .slice none 0 0, .slice none 0 0, .string ⟨#[]⟩, .int .i64 0, .int .i64 0, .int .i64 0, .slice none 0 0, .slice none 0 0] 189)).drew) :=
    copy_new (w.drew) #[v0, v1, v2, v3, v4, v5, .string ⟨#[]⟩, .int .i64 0, .int .i64 0, .int .i64 0, .slice none 0 0, .slice none 0 0, .string ⟨#[]⟩, .int .i64 0, .int .i64 0, .int .i64 0, .slice none 0 0, .slice none 0 0, .string ⟨#[]⟩, .int .i64 0, .int .i64 0, .int .i64 0, .slice none 0 0, .slice none 0 0] 6 3 3 ⟨w.heap.size, 0, none⟩ 1 4 1 [v0, v1, v2, v3, v4, v5] #[v0, v1, v2, v3, v4, v5, v0, v1, v2, v3, v4, v5, .string ⟨#[]⟩, .int .i64 0, .int .i64 0, .int .i64 0, .slice none 0 0, .slice none 0 0, .string ⟨#[]⟩, .int .i64 0, .int .i64 0, .int .i64 0, .slice none 0 0, .slice none 0 0] rfl rfl (fun j u hu => by rw [addr_add, Nat.zero_add]; refine ((Blk.new (w.drew) #[v0, v1, v2, v3, v4, v5, .string ⟨#[]⟩, .int .i64 0, .int .i64 0, .int .i64 0, .slice none 0 0, .slice none 0 0, .string ⟨#[]⟩, .int .i64 0, .int .i64 0, .int .i64 0, .slice none 0 0, .slice none 0 0, .string ⟨#[]⟩, .int .i64 0, .int .i64 0, .int .i64 0, .slice none 0 0, .slice none 0 0] 189).cell j).trans ?_; exact pre_get hu) (by simp) o rfl
  have hcp2 : (Builtin.copy_ #[111, 111] 3 #[.slice (some ⟨w.heap.size, 12, none⟩) 2 2, .slice (some ⟨w.heap.size, 0, none⟩) 2 4]).run Tryz.prog ((w.alloc (.cells #[v0, v1, v2, v3, v4, v5, v0, v1, v2, v3, v4, v5, .string ⟨#[]⟩, .int .i64 0, .int .i64 0, .int .i64 0, .slice none 0 0, .slice none 0 0, .string ⟨#[]⟩, .int .i64 0, .int .i64 0, .int .i64 0, .slice none 0 0, .slice none 0 0] 189)).drew.drew) = .ok (goInt 2) ((w.alloc (.cells #[v0, v1, v2, v3, v4, v5, v0, v1, v2, v3, v4, v5, v0, v1, v2, v3, v4, v5, v0, v1, v2, v3, v4, v5] 189)).drew.drew) :=
    copy_new (w.drew.drew) #[v0, v1, v2, v3, v4, v5, v0, v1, v2, v3, v4, v5, .string ⟨#[]⟩, .int .i64 0, .int .i64 0, .int .i64 0, .slice none 0 0, .slice none 0 0, .string ⟨#[]⟩, .int .i64 0, .int .i64 0, .int .i64 0, .slice none 0 0, .slice none 0 0] 12 2 2 ⟨w.heap.size, 0, none⟩ 2 4 2 [v0, v1, v2, v3, v4, v5, v0, v1, v2, v3, v4, v5] #[v0, v1, v2, v3, v4, v5, v0, v1, v2, v3, v4, v5, v0, v1, v2, v3, v4, v5, v0, v1, v2, v3, v4, v5] rfl rfl (fun j u hu => by rw [addr_add, Nat.zero_add]; refine ((Blk.new (w.drew.drew) #[v0, v1, v2, v3, v4, v5, v0, v1, v2, v3, v4, v5, .string ⟨#[]⟩, .int .i64 0, .int .i64 0, .int .i64 0, .slice none 0 0, .slice none 0 0, .string ⟨#[]⟩, .int .i64 0, .int .i64 0, .int .i64 0, .slice none 0 0, .slice none 0 0] 189).cell j).trans ?_; exact pre_get hu) (by simp) oo rfl
  go_enter Tryz.func171, Tryz.ntmps171
  go_wp2_with (go_at_call 204; refine (mul_4 _).mono ?_; rintro e w1 ⟨rfl, he⟩; rw [he]; clear he)
  go_loopw [8] (fun n wr => (n = .int .i64 1 ∧ wr = (w.alloc (.cells #[v0, v1, v2, v3, v4, v5, .string ⟨#[]⟩, .int .i64 0, .int .i64 0, .int .i64 0, .slice none 0 0, .slice none 0 0, .string ⟨#[]⟩, .int .i64 0, .int .i64 0, .int .i64 0, .slice none 0 0, .slice none 0 0, .string ⟨#[]⟩, .int .i64 0, .int .i64 0, .int .i64 0, .slice none 0 0, .slice none 0 0] 189))) ∨ (n = .int .i64 2 ∧ wr = (w.alloc (.cells #[v0, v1, v2, v3, v4, v5, v0, v1, v2, v3, v4, v5, .string ⟨#[]⟩, .int .i64 0, .int .i64 0, .int .i64 0, .slice none 0 0, .slice none 0 0, .string ⟨#[]⟩, .int .i64 0, .int .i64 0, .int .i64 0, .slice none 0 0, .slice none 0 0] 189)).drew) ∨ (n = .int .i64 4 ∧ wr = (w.alloc (.cells #[v0, v1, v2, v3, v4, v5, v0, v1, v2, v3, v4, v5, v0, v1, v2, v3, v4, v5, v0, v1, v2, v3, v4, v5] 189)).drew.drew)) (fun n _ => 4 - (intOf n).toNat)
  case atStart => exact .inl ⟨rfl, rfl⟩
  case round =>
    rcases hrel with ⟨rfl, rfl⟩ | ⟨rfl, rfl⟩ | ⟨rfl, rfl⟩
    · go_wp2
      go_region
      go_wp2
      go_roundw
      case rel => exact .inr (.inl ⟨rfl, trivial⟩)
      case measure => simp [intOf]
    · go_wp2
      go_region
      go_wp2
      go_roundw
      case rel => exact .inr (.inr (⟨rfl, trivial⟩))
      case measure => simp [intOf]
    · go_wp2
      go_ret
      exact ⟨_, rfl, ⟨rfl, .inr ⟨w.heap.size, 4, _, rfl, Nat.le_refl _, heap_alloc_new (w.drew.drew) _, Nat.le_refl _, by unfold maxLen; decide, rfl, rfl⟩⟩, below_drew2 w _⟩
end Go.Proofs.YtddbjcfdmdbmkaaGreatDoor

/-
  The program's paths: ofSequence, plain.
-/
namespace Go.Proofs.YtddbjcfdmdbmkaaGreatDoor
open Go.RowKit

def ofPartP (rec : List PPart → List (List PPart)) (p : PPart) : List (List PPart) :=
  if isStepB p then [List.replicate p.times p] else if p.choices.isEmpty then [[p]] else p.choices.flatMap rec
def ofSeqP : Nat → List PPart → List (List PPart)
  | 0, _ => [[]]
  | n + 1, l => l.foldl (fun all p => eachP all (ofPartP (ofSeqP n) p)) [[]]
/-- the paths of the first k parts -/
def ofAcc (n : Nat) (l : List PPart) (k : Nat) : List (List PPart) := (l.take k).foldl (fun all p => eachP all (ofPartP (ofSeqP n) p)) [[]]
theorem ofAcc_succ (n : Nat) (l : List PPart) (k : Nat) (h : k < l.length) : ofAcc n l (k + 1) = eachP (ofAcc n l k) (ofPartP (ofSeqP n) l[k]) := by
  unfold ofAcc; rw [List.take_succ_eq_append_getElem h, List.foldl_append]; rfl
theorem ofAcc_all (n : Nat) (l : List PPart) : ofAcc n l l.length = ofSeqP (n + 1) l := by unfold ofAcc; rw [List.take_length]; rfl
/-- what the paths of a sequence want -/
def WF : Nat → List PPart → Prop
  | 0, _ => False
  | n + 1, l => l ≠ [] ∧ (sizeP (n + 1) l).1 ≤ 16 ∧ bnd (n + 1) l ≤ 100000 ∧ ∀ p ∈ l, (isStepB p = true → 1 ≤ p.times ∧ p.times ≤ 4 ∧ p.choices = []) ∧ ∀ c ∈ p.choices, WF n c

theorem eachP_mem {hs ts : List (List PPart)} {x : List PPart} (h : x ∈ eachP hs ts) : ∃ a ∈ hs, ∃ b ∈ ts, x = a ++ b := by
  unfold eachP at h
  obtain ⟨a, ha, hx⟩ := List.mem_flatMap.1 h
  obtain ⟨b, hb, rfl⟩ := List.mem_map.1 hx
  exact ⟨a, ha, b, hb, rfl⟩
/-- one part: not empty, not long, as many as were counted -/
structure Fit (ps : List (List PPart)) (cnt len : Nat) : Prop where
  ne : ∀ x ∈ ps, x ≠ []
  len : ∀ x ∈ ps, x.length ≤ len
  cnt : ps.length = cnt
  pos : 0 < ps.length
theorem sum_map_len (c : List (List PPart)) (rec : List PPart → List (List PPart)) : (c.flatMap rec).length = (c.map fun x => (rec x).length).sum := by
  induction c with
  | nil => rfl
  | cons a c ih => simp [ih]
theorem fold_count (c : List (List PPart)) (f : List PPart → Nat × Nat) (a : Nat × Nat) : (c.foldl (fun a c => (a.1 + (f c).1, max a.2 (f c).2)) a).1 = a.1 + (c.map fun x => (f x).1).sum := by
  induction c generalizing a with
  | nil => simp
  | cons x c ih => rw [List.foldl_cons, ih]; simp; omega
theorem part_fit {n : Nat} {p : PPart} (hw : (isStepB p = true → 1 ≤ p.times ∧ p.times ≤ 4 ∧ p.choices = [])) (ih : ∀ c ∈ p.choices, Fit (ofSeqP n c) (sizeP n c).1 (bnd n c)) :
    Fit (ofPartP (ofSeqP n) p) (sizePartP (sizeP n) p).1 (p.times + 1 + (p.choices.map fun c => bnd n c + 1).sum) := by
  unfold ofPartP sizePartP
  by_cases hs : isStepB p = true
  · obtain ⟨h1, h4, hc⟩ := hw hs
    rw [if_pos hs, hc]
    refine ⟨fun x hx e => ?_, fun x hx => ?_, rfl, by simp⟩
    · simp only [List.mem_singleton] at hx
      rw [hx] at e
      have := congrArg List.length e
      simp at this; omega
    · simp only [List.mem_singleton] at hx
      subst hx; simp
      try omega
  · rw [if_neg hs]
    by_cases hc : p.choices.isEmpty = true
    · rw [if_pos hc, if_pos hc]
      refine ⟨fun x hx e => ?_, fun x hx => ?_, rfl, by simp⟩
      · simp only [List.mem_singleton] at hx
        rw [hx] at e; cases e
      · simp only [List.mem_singleton] at hx
        subst hx; simp
        try omega
    · rw [if_neg hc, if_neg hc]
      have hne : p.choices ≠ [] := by simpa using hc
      refine ⟨fun x hx => ?_, fun x hx => ?_, ?_, ?_⟩
      · obtain ⟨c, hc, hx⟩ := List.mem_flatMap.1 hx; exact (ih c hc).ne x hx
      · obtain ⟨c, hc, hx⟩ := List.mem_flatMap.1 hx
        have := (ih c hc).len x hx
        have h2 : bnd n c + 1 ≤ (p.choices.map fun c => bnd n c + 1).sum := mem_le_sum (List.mem_map.2 ⟨c, hc, rfl⟩)
        omega
      · rw [sum_map_len, fold_count]
        simp only [Nat.zero_add]
        congr 1
        exact List.map_congr_left (fun c hc => (ih c hc).cnt)
      · obtain ⟨c, rest, e⟩ := List.exists_cons_of_ne_nil hne
        have hm : c ∈ p.choices := by rw [e]; simp
        have := (ih c hm).pos
        rw [sum_map_len]
        exact Nat.lt_of_lt_of_le this (mem_le_sum (List.mem_map.2 ⟨c, hm, rfl⟩))
/-- the first k parts -/
theorem acc_fit {n : Nat} {l : List PPart} (hp : ∀ p ∈ l, Fit (ofPartP (ofSeqP n) p) (sizePartP (sizeP n) p).1 (p.times + 1 + (p.choices.map fun c => bnd n c + 1).sum)) : ∀ k, k ≤ l.length → (seqAcc (sizeP n) l k).1 ≤ 16 →
    (ofAcc n l k).length = (seqAcc (sizeP n) l k).1 ∧ 0 < (ofAcc n l k).length ∧ (∀ x ∈ ofAcc n l k, (0 < k → x ≠ []) ∧ x.length ≤ ((l.map fun p => p.times + 1 + (p.choices.map fun c => bnd n c + 1).sum).take k).sum) ∧ ∀ j, j ≤ k → (seqAcc (sizeP n) l j).1 ≤ 16 := by
  intro k
  induction k with
  | zero =>
    intro _ h
    refine ⟨rfl, by show 0 < 1; omega, fun x hx => ?_, fun j hj => by rw [show j = 0 by omega]; exact h⟩
    have e : x = [] := by simpa [ofAcc] using hx
    exact ⟨fun h => absurd h (by omega), by rw [e]; simp⟩
  | succ k ih =>
    intro hk h
    have hs := seqAcc_succ (sizeP n) l k (by omega)
    have hf := hp _ (List.getElem_mem (show k < l.length by omega))
    rw [hs] at h
    have hm : min ((seqAcc (sizeP n) l k).1 * (sizePartP (sizeP n) l[k]).1) 17 ≤ 16 := h
    have hc1 : 1 ≤ (sizePartP (sizeP n) l[k]).1 := by have := hf.pos; have := hf.cnt; omega
    have hprod : (seqAcc (sizeP n) l k).1 * (sizePartP (sizeP n) l[k]).1 ≤ 16 := by omega
    have hle : (seqAcc (sizeP n) l k).1 ≤ 16 := Nat.le_trans (Nat.le_mul_of_pos_right _ hc1) hprod
    obtain ⟨i1, i2, i3, i4⟩ := ih (by omega) hle
    have he : (seqAcc (sizeP n) l (k + 1)).1 = (seqAcc (sizeP n) l k).1 * (sizePartP (sizeP n) l[k]).1 := by
      rw [hs]; show min _ 17 = _; omega
    rw [ofAcc_succ n l k (by omega)]
    refine ⟨by rw [eachP_len, i1, hf.cnt, he], by rw [eachP_len]; exact Nat.mul_pos i2 hf.pos, fun x hx => ?_, fun j hj => ?_⟩
    · obtain ⟨a, ha, b, hb, rfl⟩ := eachP_mem hx
      refine ⟨fun _ e => hf.ne b hb (List.append_eq_nil_iff.1 e).2, ?_⟩
      have h1 := (i3 a ha).2
      have h2 := hf.len b hb
      rw [List.take_succ_eq_append_getElem (by rw [List.length_map]; omega), List.sum_append, List.length_append]
      simp only [List.getElem_map, List.sum_cons, List.sum_nil]
      omega
    · by_cases e : j = k + 1
      · rw [e, he]; exact hprod
      · exact i4 j (by omega)
theorem seq_fit : ∀ n l, WF n l → Fit (ofSeqP n l) (sizeP n l).1 (bnd n l) := by
  intro n
  induction n with
  | zero => intro l h; exact h.elim
  | succ n ih =>
    rintro l ⟨hne, h16, _, hp⟩
    have e : seqAcc (sizeP n) l l.length = sizeP (n + 1) l := by unfold seqAcc; rw [List.take_length]; rfl
    obtain ⟨i1, i2, i3, _⟩ := acc_fit (n := n) (l := l) (fun p hpm => part_fit (hp p hpm).1 (fun c hc => ih c ((hp p hpm).2 c hc))) l.length (Nat.le_refl _) (by rw [e]; exact h16)
    rw [e, ofAcc_all] at i1
    rw [ofAcc_all] at i2 i3
    have hl : 0 < l.length := List.length_pos_iff.2 hne
    exact ⟨fun x hx => (i3 x hx).1 hl, fun x hx => Nat.le_trans (i3 x hx).2 (sum_take_le _ _), i1, i2⟩
end Go.Proofs.YtddbjcfdmdbmkaaGreatDoor

/-
  The program's paths: ofPart: a step, a guard.
-/
namespace Go.Proofs.YtddbjcfdmdbmkaaGreatDoor
open Go.RowKit

theorem paths_one {own : Nat → Nat} {w : World} {v : Value} {l : List PPart} (h : PathN own w v l) : ∃ own', Ext own w own' (w.alloc (.cells #[v] 111)) ∧ PathsLie own' (w.alloc (.cells #[v] 111)) (.slice (some ⟨w.heap.size, 0, none⟩) 1 1) [l] := by
  have hg : ∀ k, k < w.heap.size → put own w.heap.size 7 k = own k := fun k hk => put_other _ _ _ _ (by omega)
  refine ⟨put own w.heap.size 7, (Ext.refl own w).allocAs _ 7, [v], rfl, ⟨rfl, .inr ⟨w.heap.size, 1, _, rfl, Nat.zero_le _, heap_alloc_new w _, Nat.le_refl _, by unfold maxLen; decide, rfl, rfl⟩⟩, fun g e => by cases e; exact put_same _ _ _, fun q hq => ?_⟩
  simp only [List.zip_cons_cons, List.zip_nil_right, List.mem_singleton] at hq
  subst hq
  exact ⟨movePV (World.grownBy_alloc w _ none) (fun k e => by cases e) (fun k hk _ => hg k hk) h.1, h.2⟩
def PathsPost (own : Nat → Nat) (w : World) (ps : List (List PPart)) (v : Value) (w' : World) : Prop := ∃ own', Ext own w own' w' ∧ PathsLie own' w' v ps
/-- the cells of a part are of one cell each -/
theorem part_one {own : Nat → Nat} {w : World} {n : Nat} {p : PPart} {cv hv : Value} (h : PartLie own w n p cv hv) : ∀ u ∈ partCells (p, (cv, hv)), u.oneCell' = true := by
  obtain ⟨a, b, c, rfl⟩ := row_form h.1.1
  obtain ⟨a', b', c', rfl⟩ := h.2.form
  intro u hu
  simp only [partCells, List.mem_cons, List.not_mem_nil, or_false] at hu
  rcases hu with rfl | rfl | rfl | rfl | rfl | rfl <;> rfl
theorem rep_cells (p : PPart) (cv hv : Value) (c : Nat) : flat partCells ((List.replicate c p).zip (List.replicate c (cv, hv))) = (List.replicate c (partCells (p, (cv, hv)))).flatten := by
  induction c with
  | zero => rfl
  | succ c ih =>
    have e : flat partCells ((List.replicate (c + 1) p).zip (List.replicate (c + 1) (cv, hv))) = partCells (p, (cv, hv)) ++ flat partCells ((List.replicate c p).zip (List.replicate c (cv, hv))) := rfl
    rw [e, ih, List.replicate_succ, List.flatten_cons]
/-- Repeat, however often -/
theorem repeat_p {own : Nat → Nat} {w : World} {n B c : Nat} {p : PPart} {cv hv : Value} (hB : Blk w B #[.string p.name, .int .i64 p.place, .int .i64 p.times, .int .i64 p.kind, cv, hv] 189) (h : PartLie own w n p cv hv) (h1 : 1 ≤ c) (h4 : c ≤ 4) :
    Calls Tryz.prog 171 #[.slice (some ⟨B, 0, none⟩) 1 1, .int .i64 c] w fun e w' => ∃ v, e = .returned v ∧ ∃ own', Ext own w own' w' ∧ PathN own' w' v (List.replicate c p) := by
  have ho := part_one h
  have key : ∀ w' v, w'.ownsRow w.heap.size 189 6 v c (List.replicate c (partCells (p, (cv, hv)))).flatten → Below w.heap.size w w' → ∃ own', Ext own w own' w' ∧ PathN own' w' v (List.replicate c p) := fun w' v hrow hb => by
    refine path_new (xs := List.replicate c (cv, hv)) (by simp) (fun e => by have := congrArg List.length e; simp at this; omega) (by rw [rep_cells, List.length_replicate]; exact hrow) (Nat.le_refl _) hb ?_
    intro q hq
    rw [List.zip_replicate, Nat.min_self] at hq
    have e := List.eq_of_mem_replicate hq
    subst e
    exact ⟨h.1, h.2.form⟩
  rcases (by omega : c = 1 ∨ c = 2 ∨ c = 3 ∨ c = 4) with rfl | rfl | rfl | rfl
  · refine (repeat_1 hB ho).mono ?_; rintro e w' ⟨v, rfl, hrow, hb⟩; exact ⟨v, rfl, key w' v hrow hb⟩
  · refine (repeat_2 hB ho).mono ?_; rintro e w' ⟨v, rfl, hrow, hb⟩; exact ⟨v, rfl, key w' v hrow hb⟩
  · refine (repeat_3 hB ho).mono ?_; rintro e w' ⟨v, rfl, hrow, hb⟩; exact ⟨v, rfl, key w' v hrow hb⟩
  · refine (repeat_4 hB ho).mono ?_; rintro e w' ⟨v, rfl, hrow, hb⟩; exact ⟨v, rfl, key w' v hrow hb⟩

set_option maxRecDepth 100000 in
set_option maxHeartbeats 800000 in
theorem ofPart_step {own : Nat → Nat} {w : World} {n : Nat} {p : PPart} {cv hv : Value} (h : PartLie own w n p cv hv) (hs : isStepB p = true) (h1 : 1 ≤ p.times) (h4 : p.times ≤ 4) :
    Calls Tryz.prog 135 #[partVal p cv hv] w fun e w' => ∃ v, e = .returned v ∧ PathsPost own w (ofPartP (ofSeqP n) p) v w' := by
  have HP : Hid (ofPartP (ofSeqP n) p = [List.replicate p.times p]) := by show _ = _; unfold ofPartP; rw [if_pos hs]
  have hcall := fun w => isStep_p p cv hv (row_form h.1.1) h.2.form w
  rw [hs] at hcall
  have hrep := fun (w' : World) (B : Nat) (hb : Below w.heap.size w w') hB => repeat_p (own := own) (w := w') (n := n) (B := B) (c := p.times) (p := p) (cv := cv) (hv := hv) hB (h.ext (Ext.of_below hb)) h1 h4
  obtain ⟨ca, cb, cc, rfl⟩ := row_form h.1.1
  obtain ⟨ha, hb, hc, rfl⟩ := h.2.form
  simp only [partVal] at hcall ⊢
  clear hs h
  go_enter Tryz.func135, Tryz.ntmps135
  go_wp2_with (first
    | (go_at_call 91; refine (hcall _).mono ?_; rintro e w1 ⟨rfl, o, rfl⟩)
    | (go_at_call 171; refine (hrep _ (w.heap.size + 1 + 1) ((((Below.refl _ w).alloc (Nat.le_refl _) _).alloc (by simp) _).alloc (by simp; omega) _) (alloc_at _ _ _ (by simp))).mono ?_; rintro e w2 ⟨v1, rfl, own2, he2, hN2⟩; obtain ⟨ra, rb, rc, rfl⟩ := hN2.1.form))
  go_ret
  obtain ⟨own3, he3, hL3⟩ := paths_one hN2
  have hE := (fun hx => Ext.trans (Ext.of_below (own := own) (w := w) hx) he2) ((((Below.refl _ w).alloc (Nat.le_refl _) _).alloc (by simp) _).alloc (by simp; omega) _)
  rw [HP.out]
  exact ⟨_, rfl, own3, hE.trans he3, hL3⟩

set_option maxRecDepth 100000 in
set_option maxHeartbeats 800000 in
theorem ofPart_guard {own : Nat → Nat} {w : World} {n : Nat} {p : PPart} {cv hv : Value} (h : PartLie own w n p cv hv) (hs : isStepB p = false) (hc0 : p.choices = []) :
    Calls Tryz.prog 135 #[partVal p cv hv] w fun e w' => ∃ v, e = .returned v ∧ PathsPost own w (ofPartP (ofSeqP n) p) v w' := by
  have HP : Hid (ofPartP (ofSeqP n) p = [[p]]) := by show _ = _; unfold ofPartP; rw [if_neg (by simp [hs]), if_pos (by simp [hc0])]
  have hcall := fun w => isStep_p p cv hv (row_form h.1.1) h.2.form w
  rw [hs] at hcall
  have hv0 : hv = .slice none 0 0 := by
    rcases h.2 with ⟨_, e⟩ | ⟨e, _⟩
    · exact e
    · exact absurd hc0 e
  subst hv0
  have hnil := nil_yes
  have hPL : Hid (PartLie own w n p cv (.slice none 0 0)) := h
  obtain ⟨ca, cb, cc, rfl⟩ := row_form h.1.1
  simp only [partVal] at hcall ⊢
  clear hs h
  go_enter Tryz.func135, Tryz.ntmps135
  go_wp2_with (go_at_call 91; refine (hcall _).mono ?_; rintro e w1 ⟨rfl, o, rfl⟩)
  go_ret
  rw [HP.out]
  refine ⟨_, rfl, ?_⟩
  have hb2 : Below w.heap.size w (((w.alloc (.cells #[.string p.name, .int .i64 p.place, .int .i64 p.times, .int .i64 p.kind, .slice ca cb cc, .slice none 0 0] 189)).alloc o).alloc (.cells #[.string p.name, .int .i64 p.place, .int .i64 p.times, .int .i64 p.kind, .slice ca cb cc, .slice none 0 0] 189)) := (((Below.refl _ w).alloc (Nat.le_refl _) _).alloc (by simp) _).alloc (by simp; omega) _
  obtain ⟨own2, he2, hN2⟩ := path_new (own := own) (w := w) (l := [p]) (xs := [(.slice ca cb cc, .slice none 0 0)]) (v := .slice (some ⟨w.heap.size + 1 + 1, 0, none⟩) 1 1) (B := w.heap.size) rfl (by simp) ⟨rfl, .inr ⟨w.heap.size + 1 + 1, 1, _, rfl, by omega, alloc_at _ _ _ (by simp), Nat.le_refl _, by unfold maxLen; decide, rfl, rfl⟩⟩ (Nat.le_refl _) hb2 (fun q hq => by simp only [List.zip_cons_cons, List.zip_nil_right, List.mem_singleton] at hq; subst hq; exact ⟨hPL.out.1, _, _, _, rfl⟩)
  obtain ⟨own3, he3, hL3⟩ := paths_one hN2
  simp only [alloc_size] at hL3
  exact ⟨own3, he2.trans he3, hL3⟩
end Go.Proofs.YtddbjcfdmdbmkaaGreatDoor
