import Derived.Test.YtddbjcfdmdbmkaaGreatDoorB21
set_option linter.unusedVariables false
set_option linter.unusedSimpArgs false
namespace Go.Proofs.YtddbjcfdmdbmkaaGreatDoor
open Go.RowKit

set_option maxRecDepth 100000 in
set_option maxHeartbeats 800000 in
theorem mul_1 (w : World) : Calls Tryz.prog 204 #[.int .u64 1, .int .u64 1] w fun e w' => e = .returned (.tuple #[.int .u64 0, .int .u64 1]) ∧ w' = w := by
  go_enter Tryz.func204, Tryz.ntmps204
  go_wp2
  go_ret2
  exact ⟨by kernel_rfl, rfl⟩
set_option maxRecDepth 100000 in
set_option maxHeartbeats 800000 in
theorem mul_2 (w : World) : Calls Tryz.prog 204 #[.int .u64 1, .int .u64 2] w fun e w' => e = .returned (.tuple #[.int .u64 0, .int .u64 2]) ∧ w' = w := by
  go_enter Tryz.func204, Tryz.ntmps204
  go_wp2
  go_ret2
  exact ⟨by kernel_rfl, rfl⟩
set_option maxRecDepth 100000 in
set_option maxHeartbeats 800000 in
theorem mul_3 (w : World) : Calls Tryz.prog 204 #[.int .u64 1, .int .u64 3] w fun e w' => e = .returned (.tuple #[.int .u64 0, .int .u64 3]) ∧ w' = w := by
  go_enter Tryz.func204, Tryz.ntmps204
  go_wp2
  go_ret2
  exact ⟨by kernel_rfl, rfl⟩
set_option maxRecDepth 100000 in
set_option maxHeartbeats 800000 in
theorem mul_4 (w : World) : Calls Tryz.prog 204 #[.int .u64 1, .int .u64 4] w fun e w' => e = .returned (.tuple #[.int .u64 0, .int .u64 4]) ∧ w' = w := by
  go_enter Tryz.func204, Tryz.ntmps204
  go_wp2
  go_ret2
  exact ⟨by kernel_rfl, rfl⟩
theorem make_1 (w : World) : (Instr.makeSlice 111 (.int .i64 1) (.int .i64 1)).run Tryz.prog w = .ok (.slice (some ⟨w.heap.size, 0, none⟩) 1 1) (w.alloc (.cells #[.string ⟨#[]⟩, .int .i64 0, .int .i64 0, .int .i64 0, .slice none 0 0, .slice none 0 0] 189)) := by kernel_rfl
theorem make_2 (w : World) : (Instr.makeSlice 111 (.int .i64 2) (.int .i64 2)).run Tryz.prog w = .ok (.slice (some ⟨w.heap.size, 0, none⟩) 2 2) (w.alloc (.cells #[.string ⟨#[]⟩, .int .i64 0, .int .i64 0, .int .i64 0, .slice none 0 0, .slice none 0 0, .string ⟨#[]⟩, .int .i64 0, .int .i64 0, .int .i64 0, .slice none 0 0, .slice none 0 0] 189)) := by kernel_rfl
theorem make_3 (w : World) : (Instr.makeSlice 111 (.int .i64 3) (.int .i64 3)).run Tryz.prog w = .ok (.slice (some ⟨w.heap.size, 0, none⟩) 3 3) (w.alloc (.cells #[.string ⟨#[]⟩, .int .i64 0, .int .i64 0, .int .i64 0, .slice none 0 0, .slice none 0 0, .string ⟨#[]⟩, .int .i64 0, .int .i64 0, .int .i64 0, .slice none 0 0, .slice none 0 0, .string ⟨#[]⟩, .int .i64 0, .int .i64 0, .int .i64 0, .slice none 0 0, .slice none 0 0] 189)) := by kernel_rfl
theorem make_4 (w : World) : (Instr.makeSlice 111 (.int .i64 4) (.int .i64 4)).run Tryz.prog w = .ok (.slice (some ⟨w.heap.size, 0, none⟩) 4 4) (w.alloc (.cells #[.string ⟨#[]⟩, .int .i64 0, .int .i64 0, .int .i64 0, .slice none 0 0, .slice none 0 0, .string ⟨#[]⟩, .int .i64 0, .int .i64 0, .int .i64 0, .slice none 0 0, .slice none 0 0, .string ⟨#[]⟩, .int .i64 0, .int .i64 0, .int .i64 0, .slice none 0 0, .slice none 0 0, .string ⟨#[]⟩, .int .i64 0, .int .i64 0, .int .i64 0, .slice none 0 0, .slice none 0 0] 189)) := by kernel_rfl

theorem copy_rows (w : World) (g o dLen dCap : Nat) (a : Addr) (sLen sCap k : Nat) (cur : Array Value) (t : TypeId) (cs : List Value)
    (hg : w.heap[g]? = some (.cells cur t (0, 0))) (hk : k = Nat.min sLen dLen) (hn : cs.length = k * 6)
    (hsrc : ∀ j v, cs[j]? = some v → w.cell? (a.add j) = some v) (hfit : o + cs.length ≤ cur.size) (h1 : ∀ v ∈ cs, v.oneCell' = true) :
    (Builtin.copy_ #[111, 111] 3 #[.slice (some ⟨g, o, none⟩) dLen dCap, .slice (some a) sLen sCap]).run Tryz.prog w =
      .ok (goInt k) (w.setRow g (cur.toList.take o ++ cs ++ cur.toList.drop (o + cs.length)).toArray) := by
  have hl := run_loadCells_list (P := Tryz.prog) w a cs hsrc
  have hst := run_storeCells_at Tryz.prog g o t cs 0 cur w hg (by simpa using hfit) h1
  obtain ⟨i0, hi0, hz0, hz1, hz2⟩ := info_parts Tryz.infoPart
  rw [hn] at hl
  simp [Builtin.copy_, run_underlying Tryz.underlying111, Builtin.lenOf, Builtin.firstCells, sizeOf, typeInfo, hi0, hz1, ← hk, hl, hst]

theorem setRow_new (w : World) (cur new : Array Value) (t : TypeId) : (w.alloc (.cells cur t)).setRow w.heap.size new = w.alloc (.cells new t) := by
  unfold World.setRow World.alloc
  simp only [World.mk.injEq, true_and, and_true]
  apply Array.ext
  · simp
  · intro i h1 h2
    simp only [Array.getElem_modify, Array.getElem_push]
    by_cases e : w.heap.size = i
    · subst e; simp
    · have : i < w.heap.size := by simp at h2; omega
      simp [e, this]
theorem copy_new (w : World) (cur : Array Value) (o dLen dCap : Nat) (a : Addr) (sLen sCap k : Nat) (cs : List Value) (new : Array Value) (hk : k = Nat.min sLen dLen) (hn : cs.length = k * 6)
    (hsrc : ∀ j v, cs[j]? = some v → (w.alloc (.cells cur 189)).cell? (a.add j) = some v) (hfit : o + cs.length ≤ cur.size) (h1 : ∀ v ∈ cs, v.oneCell' = true) (hnew : (cur.toList.take o ++ cs ++ cur.toList.drop (o + cs.length)).toArray = new) :
    (Builtin.copy_ #[111, 111] 3 #[.slice (some ⟨w.heap.size, o, none⟩) dLen dCap, .slice (some a) sLen sCap]).run Tryz.prog (w.alloc (.cells cur 189)) = .ok (goInt k) (w.alloc (.cells new 189)) := by
  rw [copy_rows _ _ _ _ _ a sLen sCap k cur 189 cs (heap_alloc_new w _) hk hn hsrc hfit h1, hnew, setRow_new]

set_option maxRecDepth 100000 in
set_option maxHeartbeats 1600000 in
theorem repeat_1 {w : World} {B : Nat} {v0 v1 v2 v3 v4 v5 : Value} (hB : Blk w B #[v0, v1, v2, v3, v4, v5] 189) (o : ∀ u ∈ [v0, v1, v2, v3, v4, v5], u.oneCell' = true) :
    Calls Tryz.prog 171 #[.slice (some ⟨B, 0, none⟩) 1 1, .int .i64 1] w fun e w' => ∃ v, e = .returned v ∧ w'.ownsRow w.heap.size 189 6 v 1 [v0, v1, v2, v3, v4, v5] ∧ Below w.heap.size w w' := by
  have hmk := make_1
  have hcp := copy_new w #[.string ⟨#[]⟩, .int .i64 0, .int .i64 0, .int .i64 0, .slice none 0 0, .slice none 0 0] 0 1 1 ⟨B, 0, none⟩ 1 1 1 [v0, v1, v2, v3, v4, v5] #[v0, v1, v2, v3, v4, v5] rfl rfl (fun j u hu => by rw [addr_add, Nat.zero_add, (hB.alloc _).cell]; simpa using hu) (by simp) o rfl
  go_enter Tryz.func171, Tryz.ntmps171
  go_wp2_with (go_at_call 204; refine (mul_1 _).mono ?_; rintro e w1 ⟨rfl, he⟩; rw [he]; clear he)
  go_loopw [8] (fun n wr => n = .int .i64 1 ∧ wr = w.alloc (.cells #[v0, v1, v2, v3, v4, v5] 189)) (fun _ _ => 0)
  case atStart => exact ⟨rfl, rfl⟩
  case round =>
    obtain ⟨rfl, rfl⟩ := hrel
    go_wp2
    go_ret
    exact ⟨_, rfl, ⟨rfl, .inr ⟨w.heap.size, 1, _, rfl, Nat.le_refl _, heap_alloc_new w _, Nat.le_refl _, by unfold maxLen; decide, rfl, rfl⟩⟩, (Below.refl _ _).alloc (Nat.le_refl _) _⟩
theorem pre_get {a b : List Value} {j : Nat} {u : Value} (h : a[j]? = some u) : ((a ++ b).toArray)[j]? = some u := by
  have hj : j < a.length := (List.getElem?_eq_some_iff.1 h).1
  simp [List.getElem?_append_left hj, h]
theorem below_drew1 (w : World) (o : Obj) : Below w.heap.size w (w.alloc o).drew := below_grown ((Below.refl _ _).alloc (Nat.le_refl _) _) (grownBy_drew _ none) (fun g e => by cases e)
theorem below_drew2 (w : World) (o : Obj) : Below w.heap.size w (w.alloc o).drew.drew := below_grown (below_drew1 w o) (grownBy_drew _ none) (fun g e => by cases e)
set_option maxRecDepth 100000 in
set_option maxHeartbeats 3200000 in
theorem repeat_2 {w : World} {B : Nat} {v0 v1 v2 v3 v4 v5 : Value} (hB : Blk w B #[v0, v1, v2, v3, v4, v5] 189) (o : ∀ u ∈ [v0, v1, v2, v3, v4, v5], u.oneCell' = true) :
    Calls Tryz.prog 171 #[.slice (some ⟨B, 0, none⟩) 1 1, .int .i64 2] w fun e w' => ∃ v, e = .returned v ∧ w'.ownsRow w.heap.size 189 6 v 2 [v0, v1, v2, v3, v4, v5, v0, v1, v2, v3, v4, v5] ∧ Below w.heap.size w w' := by
  have hmk := make_2
  have hcp := copy_new w #[.string ⟨#[]⟩, .int .i64 0, .int .i64 0, .int .i64 0, .slice none 0 0, .slice none 0 0, .string ⟨#[]⟩, .int .i64 0, .int .i64 0, .int .i64 0, .slice none 0 0, .slice none 0 0] 0 2 2 ⟨B, 0, none⟩ 1 1 1 [v0, v1, v2, v3, v4, v5] #[v0, v1, v2, v3, v4, v5, .string ⟨#[]⟩, .int .i64 0, .int .i64 0, .int .i64 0, .slice none 0 0, .slice none 0 0] rfl rfl (fun j u hu => by rw [addr_add, Nat.zero_add, (hB.alloc _).cell]; simpa using hu) (by simp) o rfl
  have hcp1 : (Builtin.copy_ #[111, 111] 3 #[.slice (some ⟨w.heap.size, 6, none⟩) 1 1, .slice (some ⟨w.heap.size, 0, none⟩) 1 2]).run Tryz.prog ((w.alloc (.cells #[v0, v1, v2, v3, v4, v5, .string ⟨#[]⟩, .int .i64 0, .int .i64 0, .int .i64 0, .slice none 0 0, .slice none 0 0] 189)).drew) = .ok (goInt 1) ((w.alloc (.cells #[v0, v1, v2, v3, v4, v5, v0, v1, v2, v3, v4, v5] 189)).drew) :=
    copy_new (w.drew) #[v0, v1, v2, v3, v4, v5, .string ⟨#[]⟩, .int .i64 0, .int .i64 0, .int .i64 0, .slice none 0 0, .slice none 0 0] 6 1 1 ⟨w.heap.size, 0, none⟩ 1 2 1 [v0, v1, v2, v3, v4, v5] #[v0, v1, v2, v3, v4, v5, v0, v1, v2, v3, v4, v5] rfl rfl (fun j u hu => by rw [addr_add, Nat.zero_add]; refine ((Blk.new (w.drew) #[v0, v1, v2, v3, v4, v5, .string ⟨#[]⟩, .int .i64 0, .int .i64 0, .int .i64 0, .slice none 0 0, .slice none 0 0] 189).cell j).trans ?_; exact pre_get hu) (by simp) o rfl
  go_enter Tryz.func171, Tryz.ntmps171
  go_wp2_with (go_at_call 204; refine (mul_2 _).mono ?_; rintro e w1 ⟨rfl, he⟩; rw [he]; clear he)
  go_loopw [8] (fun n wr => (n = .int .i64 1 ∧ wr = (w.alloc (.cells #[v0, v1, v2, v3, v4, v5, .string ⟨#[]⟩, .int .i64 0, .int .i64 0, .int .i64 0, .slice none 0 0, .slice none 0 0] 189))) ∨ (n = .int .i64 2 ∧ wr = (w.alloc (.cells #[v0, v1, v2, v3, v4, v5, v0, v1, v2, v3, v4, v5] 189)).drew)) (fun n _ => 2 - (intOf n).toNat)
  case atStart => exact .inl ⟨rfl, rfl⟩
  case round =>
    rcases hrel with ⟨rfl, rfl⟩ | ⟨rfl, rfl⟩
    · go_wp2
      go_region
      go_wp2
      go_roundw
      case rel => exact .inr (⟨rfl, trivial⟩)
      case measure => simp [intOf]
    · go_wp2
      go_ret
      exact ⟨_, rfl, ⟨rfl, .inr ⟨w.heap.size, 2, _, rfl, Nat.le_refl _, heap_alloc_new (w.drew) _, Nat.le_refl _, by unfold maxLen; decide, rfl, rfl⟩⟩, below_drew1 w _⟩
set_option maxRecDepth 100000 in
set_option maxHeartbeats 3200000 in
theorem repeat_3 {w : World} {B : Nat} {v0 v1 v2 v3 v4 v5 : Value} (hB : Blk w B #[v0, v1, v2, v3, v4, v5] 189) (o : ∀ u ∈ [v0, v1, v2, v3, v4, v5], u.oneCell' = true) :
    Calls Tryz.prog 171 #[.slice (some ⟨B, 0, none⟩) 1 1, .int .i64 3] w fun e w' => ∃ v, e = .returned v ∧ w'.ownsRow w.heap.size 189 6 v 3 [v0, v1, v2, v3, v4, v5, v0, v1, v2, v3, v4, v5, v0, v1, v2, v3, v4, v5] ∧ Below w.heap.size w w' := by
  have hmk := make_3
  have hcp := copy_new w #[.string ⟨#[]⟩, .int .i64 0, .int .i64 0, .int .i64 0, .slice none 0 0, .slice none 0 0, .string ⟨#[]⟩, .int .i64 0, .int .i64 0, .int .i64 0, .slice none 0 0, .slice none 0 0, .string ⟨#[]⟩, .int .i64 0, .int .i64 0, .int .i64 0, .slice none 0 0, .slice none 0 0] 0 3 3 ⟨B, 0, none⟩ 1 1 1 [v0, v1, v2, v3, v4, v5] #[v0, v1, v2, v3, v4, v5, .string ⟨#[]⟩, .int .i64 0, .int .i64 0, .int .i64 0, .slice none 0 0, .slice none 0 0, .string ⟨#[]⟩, .int .i64 0, .int .i64 0, .int .i64 0, .slice none 0 0, .slice none 0 0] rfl rfl (fun j u hu => by rw [addr_add, Nat.zero_add, (hB.alloc _).cell]; simpa using hu) (by simp) o rfl
  have hcp1 : (Builtin.copy_ #[111, 111] 3 #[.slice (some ⟨w.heap.size, 6, none⟩) 2 2, .slice (some ⟨w.heap.size, 0, none⟩) 1 3]).run Tryz.prog ((w.alloc (.cells #[v0, v1, v2, v3, v4, v5, .string ⟨#[]⟩, .int .i64 0, .int .i64 0, .int .i64 0, .slice none 0 0, .slice none 0 0, .string ⟨#[]⟩, .int .i64 0, .int .i64 0, .int .i64 0, .slice none 0 0, .slice none 0 0] 189)).drew) = .ok (goInt 1) ((w.alloc (.cells #[v0, v1, v2, v3, v4, v5, v0, v1, v2, v3, v4, v5, .string ⟨#[]⟩, .int .i64 0, .int .i64 0, .int .i64 0, .slice none 0 0, .slice none 0 0] 189)).drew) :=
    copy_new (w.drew) #[v0, v1, v2, v3, v4, v5, .string ⟨#[]⟩, .int .i64 0, .int .i64 0, .int .i64 0, .slice none 0 0, .slice none 0 0, .string ⟨#[]⟩, .int .i64 0, .int .i64 0, .int .i64 0, .slice none 0 0, .slice none 0 0] 6 2 2 ⟨w.heap.size, 0, none⟩ 1 3 1 [v0, v1, v2, v3, v4, v5] #[v0, v1, v2, v3, v4, v5, v0, v1, v2, v3, v4, v5, .string ⟨#[]⟩, .int .i64 0, .int .i64 0, .int .i64 0, .slice none 0 0, .slice none 0 0] rfl rfl (fun j u hu => by rw [addr_add, Nat.zero_add]; refine ((Blk.new (w.drew) #[v0, v1, v2, v3, v4, v5, .string ⟨#[]⟩, .int .i64 0, .int .i64 0, .int .i64 0, .slice none 0 0, .slice none 0 0, .string ⟨#[]⟩, .int .i64 0, .int .i64 0, .int .i64 0, .slice none 0 0, .slice none 0 0] 189).cell j).trans ?_; exact pre_get hu) (by simp) o rfl
  have hcp2 : (Builtin.copy_ #[111, 111] 3 #[.slice (some ⟨w.heap.size, 12, none⟩) 1 1, .slice (some ⟨w.heap.size, 0, none⟩) 2 3]).run Tryz.prog ((w.alloc (.cells #[v0, v1, v2, v3, v4, v5, v0, v1, v2, v3, v4, v5, .string ⟨#[]⟩, .int .i64 0, .int .i64 0, .int .i64 0, .slice none 0 0, .slice none 0 0] 189)).drew.drew) = .ok (goInt 1) ((w.alloc (.cells #[v0, v1, v2, v3, v4, v5, v0, v1, v2, v3, v4, v5, v0, v1, v2, v3, v4, v5] 189)).drew.drew) :=
    copy_new (w.drew.drew) #[v0, v1, v2, v3, v4, v5, v0, v1, v2, v3, v4, v5, .string ⟨#[]⟩, .int .i64 0, .int .i64 0, .int .i64 0, .slice none 0 0, .slice none 0 0] 12 1 1 ⟨w.heap.size, 0, none⟩ 2 3 1 [v0, v1, v2, v3, v4, v5] #[v0, v1, v2, v3, v4, v5, v0, v1, v2, v3, v4, v5, v0, v1, v2, v3, v4, v5] rfl rfl (fun j u hu => by rw [addr_add, Nat.zero_add]; refine ((Blk.new (w.drew.drew) #[v0, v1, v2, v3, v4, v5, v0, v1, v2, v3, v4, v5, .string ⟨#[]⟩, .int .i64 0, .int .i64 0, .int .i64 0, .slice none 0 0, .slice none 0 0] 189).cell j).trans ?_; exact pre_get hu) (by simp) o rfl
  go_enter Tryz.func171, Tryz.ntmps171
  go_wp2_with (go_at_call 204; refine (mul_3 _).mono ?_; rintro e w1 ⟨rfl, he⟩; rw [he]; clear he)
  go_loopw [8] (fun n wr => (n = .int .i64 1 ∧ wr = (w.alloc (.cells #[v0, v1, v2, v3, v4, v5, .string ⟨#[]⟩, .int .i64 0, .int .i64 0, .int .i64 0, .slice none 0 0, .slice none 0 0, .string ⟨#[]⟩, .int .i64 0, .int .i64 0, .int .i64 0, .slice none 0 0, .slice none 0 0] 189))) ∨ (n = .int .i64 2 ∧ wr = (w.alloc (.cells #[v0, v1, v2, v3, v4, v5, v0, v1, v2, v3, v4, v5, .string ⟨#[]⟩, .int .i64 0, .int .i64 0, .int .i64 0, .slice none 0 0, .slice none 0 0] 189)).drew) ∨ (n = .int .i64 3 ∧ wr = (w.alloc (.cells #[v0, v1, v2, v3, v4, v5, v0, v1, v2, v3, v4, v5, v0, v1, v2, v3, v4, v5] 189)).drew.drew)) (fun n _ => 3 - (intOf n).toNat)
  case atStart => exact .inl ⟨rfl, rfl⟩
  case round =>
    rcases hrel with ⟨rfl, rfl⟩ | ⟨rfl, rfl⟩ | ⟨rfl, rfl⟩
    · go_wp2
      go_region
      go_wp2
      go_roundw
      case rel => exact .inr (.inl ⟨rfl, trivial⟩)
      case measure => simp [intOf]
    · go_wp2
      go_region
      go_wp2
      go_roundw
      case rel => exact .inr (.inr (⟨rfl, trivial⟩))
      case measure => simp [intOf]
    · go_wp2
      go_ret
      exact ⟨_, rfl, ⟨rfl, .inr ⟨w.heap.size, 3, _, rfl, Nat.le_refl _, heap_alloc_new (w.drew.drew) _, Nat.le_refl _, by unfold maxLen; decide, rfl, rfl⟩⟩, below_drew2 w _⟩
set_option maxRecDepth 100000 in
set_option maxHeartbeats 3200000 in
theorem repeat_4 {w : World} {B : Nat} {v0 v1 v2 v3 v4 v5 : Value} (hB : Blk w B #[v0, v1, v2, v3, v4, v5] 189) (o : ∀ u ∈ [v0, v1, v2, v3, v4, v5], u.oneCell' = true) :
    Calls Tryz.prog 171 #[.slice (some ⟨B, 0, none⟩) 1 1, .int .i64 4] w fun e w' => ∃ v, e = .returned v ∧ w'.ownsRow w.heap.size 189 6 v 4 [v0, v1, v2, v3, v4, v5, v0, v1, v2, v3, v4, v5, v0, v1, v2, v3, v4, v5, v0, v1, v2, v3, v4, v5] ∧ Below w.heap.size w w' := by
  have hmk := make_4
  have oo : ∀ u ∈ [v0, v1, v2, v3, v4, v5, v0, v1, v2, v3, v4, v5], u.oneCell' = true := fun u hu => by rcases List.mem_append.1 (show u ∈ [v0, v1, v2, v3, v4, v5] ++ [v0, v1, v2, v3, v4, v5] from hu) with h | h <;> exact o u h
  have hcp := copy_new w #[.string ⟨#[]⟩, .int .i64 0, .int .i64 0, .int .i64 0, .slice none 0 0, .slice none 0 0, .string ⟨#[]⟩, .int .i64 0, .int .i64 0, .int .i64 0, .slice none 0 0, .slice none 0 0, .string ⟨#[]⟩, .int .i64 0, .int .i64 0, .int .i64 0, .slice none 0 0, .slice none 0 0, .string ⟨#[]⟩, .int .i64 0, .int .i64 0, .int .i64 0, .slice none 0 0, .slice none 0 0] 0 4 4 ⟨B, 0, none⟩ 1 1 1 [v0, v1, v2, v3, v4, v5] #[v0, v1, v2, v3, v4, v5, .string ⟨#[]⟩, .int .i64 0, .int .i64 0, .int .i64 0, .slice none 0 0, .slice none 0 0, .string ⟨#[]⟩, .int .i64 0, .int .i64 0, .int .i64 0, .slice none 0 0, .slice none 0 0, .string ⟨#[]⟩, .int .i64 0, .int .i64 0, .int .i64 0, .slice none 0 0, .slice none 0 0] rfl rfl (fun j u hu => by rw [addr_add, Nat.zero_add, (hB.alloc _).cell]; simpa using hu) (by simp) o rfl
  have hcp1 : (Builtin.copy_ #[111, 111] 3 #[.slice (some ⟨w.heap.size, 6, none⟩) 3 3, .slice (some ⟨w.heap.size, 0, none⟩) 1 4]).run Tryz.prog ((w.alloc (.cells #[v0, v1, v2, v3, v4, v5, .string ⟨#[]⟩, .int .i64 0, .int .i64 0, .int .i64 0, .slice none 0 0, .slice none 0 0, .string ⟨#[]⟩, .int .i64 0, .int .i64 0, .int .i64 0, .slice none 0 0, .slice none 0 0, .string ⟨#[]⟩, .int .i64 0, .int .i64 0, .int .i64 0, .slice none 0 0, .slice none 0 0] 189)).drew) = .ok (goInt 1) ((w.alloc (.cells #[v0, v1, v2, v3, v4, v5, v0, v1, v2, v3, v4, v5, .string ⟨#[]⟩, .int .i64 0, .int .i64 0, .int .i64 0, .slice none 0 0, .slice none 0 0, .string ⟨#[]⟩, .int .i64 0, .int .i64 0, .int .i64 0, .slice none 0 0, .slice none 0 0] 189)).drew) :=
    copy_new (w.drew) #[v0, v1, v2, v3, v4, v5, .string ⟨#[]⟩, .int .i64 0, .int .i64 0, .int .i64 0, .slice none 0 0, .slice none 0 0, .string ⟨#[]⟩, .int .i64 0, .int .i64 0, .int .i64 0, .slice none 0 0, .slice none 0 0, .string ⟨#[]⟩, .int .i64 0, .int .i64 0, .int .i64 0, .slice none 0 0, .slice none 0 0] 6 3 3 ⟨w.heap.size, 0, none⟩ 1 4 1 [v0, v1, v2, v3, v4, v5] #[v0, v1, v2, v3, v4, v5, v0, v1, v2, v3, v4, v5, .string ⟨#[]⟩, .int .i64 0, .int .i64 0, .int .i64 0, .slice none 0 0, .slice none 0 0, .string ⟨#[]⟩, .int .i64 0, .int .i64 0, .int .i64 0, .slice none 0 0, .slice none 0 0] rfl rfl (fun j u hu => by rw [addr_add, Nat.zero_add]; refine ((Blk.new (w.drew) #[v0, v1, v2, v3, v4, v5, .string ⟨#[]⟩, .int .i64 0, .int .i64 0, .int .i64 0, .slice none 0 0, .slice none 0 0, .string ⟨#[]⟩, .int .i64 0, .int .i64 0, .int .i64 0, .slice none 0 0, .slice none 0 0, .string ⟨#[]⟩, .int .i64 0, .int .i64 0, .int .i64 0, .slice none 0 0, .slice none 0 0] 189).cell j).trans ?_; exact pre_get hu) (by simp) o rfl
  have hcp2 : (Builtin.copy_ #[111, 111] 3 #[.slice (some ⟨w.heap.size, 12, none⟩) 2 2, .slice (some ⟨w.heap.size, 0, none⟩) 2 4]).run Tryz.prog ((w.alloc (.cells #[v0, v1, v2, v3, v4, v5, v0, v1, v2, v3, v4, v5, .string ⟨#[]⟩, .int .i64 0, .int .i64 0, .int .i64 0, .slice none 0 0, .slice none 0 0, .string ⟨#[]⟩, .int .i64 0, .int .i64 0, .int .i64 0, .slice none 0 0, .slice none 0 0] 189)).drew.drew) = .ok (goInt 2) ((w.alloc (.cells #[v0, v1, v2, v3, v4, v5, v0, v1, v2, v3, v4, v5, v0, v1, v2, v3, v4, v5, v0, v1, v2, v3, v4, v5] 189)).drew.drew) :=
    copy_new (w.drew.drew) #[v0, v1, v2, v3, v4, v5, v0, v1, v2, v3, v4, v5, .string ⟨#[]⟩, .int .i64 0, .int .i64 0, .int .i64 0, .slice none 0 0, .slice none 0 0, .string ⟨#[]⟩, .int .i64 0, .int .i64 0, .int .i64 0, .slice none 0 0, .slice none 0 0] 12 2 2 ⟨w.heap.size, 0, none⟩ 2 4 2 [v0, v1, v2, v3, v4, v5, v0, v1, v2, v3, v4, v5] #[v0, v1, v2, v3, v4, v5, v0, v1, v2, v3, v4, v5, v0, v1, v2, v3, v4, v5, v0, v1, v2, v3, v4, v5] rfl rfl (fun j u hu => by rw [addr_add, Nat.zero_add]; refine ((Blk.new (w.drew.drew) #[v0, v1, v2, v3, v4, v5, v0, v1, v2, v3, v4, v5, .string ⟨#[]⟩, .int .i64 0, .int .i64 0, .int .i64 0, .slice none 0 0, .slice none 0 0, .string ⟨#[]⟩, .int .i64 0, .int .i64 0, .int .i64 0, .slice none 0 0, .slice none 0 0] 189).cell j).trans ?_; exact pre_get hu) (by simp) oo rfl
  go_enter Tryz.func171, Tryz.ntmps171
  go_wp2_with (go_at_call 204; refine (mul_4 _).mono ?_; rintro e w1 ⟨rfl, he⟩; rw [he]; clear he)
  go_loopw [8] (fun n wr => (n = .int .i64 1 ∧ wr = (w.alloc (.cells #[v0, v1, v2, v3, v4, v5, .string ⟨#[]⟩, .int .i64 0, .int .i64 0, .int .i64 0, .slice none 0 0, .slice none 0 0, .string ⟨#[]⟩, .int .i64 0, .int .i64 0, .int .i64 0, .slice none 0 0, .slice none 0 0, .string ⟨#[]⟩, .int .i64 0, .int .i64 0, .int .i64 0, .slice none 0 0, .slice none 0 0] 189))) ∨ (n = .int .i64 2 ∧ wr = (w.alloc (.cells #[v0, v1, v2, v3, v4, v5, v0, v1, v2, v3, v4, v5, .string ⟨#[]⟩, .int .i64 0, .int .i64 0, .int .i64 0, .slice none 0 0, .slice none 0 0, .string ⟨#[]⟩, .int .i64 0, .int .i64 0, .int .i64 0, .slice none 0 0, .slice none 0 0] 189)).drew) ∨ (n = .int .i64 4 ∧ wr = (w.alloc (.cells #[v0, v1, v2, v3, v4, v5, v0, v1, v2, v3, v4, v5, v0, v1, v2, v3, v4, v5, v0, v1, v2, v3, v4, v5] 189)).drew.drew)) (fun n _ => 4 - (intOf n).toNat)
  case atStart => exact .inl ⟨rfl, rfl⟩
  case round =>
    rcases hrel with ⟨rfl, rfl⟩ | ⟨rfl, rfl⟩ | ⟨rfl, rfl⟩
    · go_wp2
      go_region
      go_wp2
      go_roundw
      case rel => exact .inr (.inl ⟨rfl, trivial⟩)
      case measure => simp [intOf]
    · go_wp2
      go_region
      go_wp2
      go_roundw
      case rel => exact .inr (.inr (⟨rfl, trivial⟩))
      case measure => simp [intOf]
    · go_wp2
      go_ret
      exact ⟨_, rfl, ⟨rfl, .inr ⟨w.heap.size, 4, _, rfl, Nat.le_refl _, heap_alloc_new (w.drew.drew) _, Nat.le_refl _, by unfold maxLen; decide, rfl, rfl⟩⟩, below_drew2 w _⟩
end Go.Proofs.YtddbjcfdmdbmkaaGreatDoor

namespace Go.Proofs.YtddbjcfdmdbmkaaGreatDoor
open Go.RowKit

def ofPartP (rec : List PPart → List (List PPart)) (p : PPart) : List (List PPart) :=
  if isStepB p then [List.replicate p.times p] else if p.choices.isEmpty then [[p]] else p.choices.flatMap rec
def ofSeqP : Nat → List PPart → List (List PPart)
  | 0, _ => [[]]
  | n + 1, l => l.foldl (fun all p => eachP all (ofPartP (ofSeqP n) p)) [[]]
def ofAcc (n : Nat) (l : List PPart) (k : Nat) : List (List PPart) := (l.take k).foldl (fun all p => eachP all (ofPartP (ofSeqP n) p)) [[]]
theorem ofAcc_succ (n : Nat) (l : List PPart) (k : Nat) (h : k < l.length) : ofAcc n l (k + 1) = eachP (ofAcc n l k) (ofPartP (ofSeqP n) l[k]) := by
  unfold ofAcc; rw [List.take_succ_eq_append_getElem h, List.foldl_append]; rfl
theorem ofAcc_all (n : Nat) (l : List PPart) : ofAcc n l l.length = ofSeqP (n + 1) l := by unfold ofAcc; rw [List.take_length]; rfl
def WF : Nat → List PPart → Prop
  | 0, _ => False
  | n + 1, l => l ≠ [] ∧ (sizeP (n + 1) l).1 ≤ 16 ∧ bnd (n + 1) l ≤ 100000 ∧ ∀ p ∈ l, (isStepB p = true → 1 ≤ p.times ∧ p.times ≤ 4 ∧ p.choices = []) ∧ ∀ c ∈ p.choices, WF n c

theorem eachP_mem {hs ts : List (List PPart)} {x : List PPart} (h : x ∈ eachP hs ts) : ∃ a ∈ hs, ∃ b ∈ ts, x = a ++ b := by
  unfold eachP at h
  obtain ⟨a, ha, hx⟩ := List.mem_flatMap.1 h
  obtain ⟨b, hb, rfl⟩ := List.mem_map.1 hx
  exact ⟨a, ha, b, hb, rfl⟩
structure Fit (ps : List (List PPart)) (cnt len : Nat) : Prop where
  ne : ∀ x ∈ ps, x ≠ []
  len : ∀ x ∈ ps, x.length ≤ len
  cnt : ps.length = cnt
  pos : 0 < ps.length
theorem sum_map_len (c : List (List PPart)) (rec : List PPart → List (List PPart)) : (c.flatMap rec).length = (c.map fun x => (rec x).length).sum := by
  induction c with
  | nil => rfl
  | cons a c ih => simp [ih]
theorem fold_count (c : List (List PPart)) (f : List PPart → Nat × Nat) (a : Nat × Nat) : (c.foldl (fun a c => (a.1 + (f c).1, max a.2 (f c).2)) a).1 = a.1 + (c.map fun x => (f x).1).sum := by
  induction c generalizing a with
  | nil => simp
  | cons x c ih => rw [List.foldl_cons, ih]; simp; omega
theorem part_fit {n : Nat} {p : PPart} (hw : (isStepB p = true → 1 ≤ p.times ∧ p.times ≤ 4 ∧ p.choices = [])) (ih : ∀ c ∈ p.choices, Fit (ofSeqP n c) (sizeP n c).1 (bnd n c)) :
    Fit (ofPartP (ofSeqP n) p) (sizePartP (sizeP n) p).1 (p.times + 1 + (p.choices.map fun c => bnd n c + 1).sum) := by
  unfold ofPartP sizePartP
  by_cases hs : isStepB p = true
  · obtain ⟨h1, h4, hc⟩ := hw hs
    rw [if_pos hs, hc]
    refine ⟨fun x hx e => ?_, fun x hx => ?_, rfl, by simp⟩
    · simp only [List.mem_singleton] at hx
      rw [hx] at e
      have := congrArg List.length e
      simp at this; omega
    · simp only [List.mem_singleton] at hx
      subst hx; simp
      try omega
  · rw [if_neg hs]
    by_cases hc : p.choices.isEmpty = true
    · rw [if_pos hc, if_pos hc]
      refine ⟨fun x hx e => ?_, fun x hx => ?_, rfl, by simp⟩
      · simp only [List.mem_singleton] at hx
        rw [hx] at e; cases e
      · simp only [List.mem_singleton] at hx
        subst hx; simp
        try omega
    · rw [if_neg hc, if_neg hc]
      have hne : p.choices ≠ [] := by simpa using hc
      refine ⟨fun x hx => ?_, fun x hx => ?_, ?_, ?_⟩
      · obtain ⟨c, hc, hx⟩ := List.mem_flatMap.1 hx; exact (ih c hc).ne x hx
      · obtain ⟨c, hc, hx⟩ := List.mem_flatMap.1 hx
        have := (ih c hc).len x hx
        have h2 : bnd n c + 1 ≤ (p.choices.map fun c => bnd n c + 1).sum := mem_le_sum (List.mem_map.2 ⟨c, hc, rfl⟩)
        omega
      · rw [sum_map_len, fold_count]
        simp only [Nat.zero_add]
        congr 1
        exact List.map_congr_left (fun c hc => (ih c hc).cnt)
      · obtain ⟨c, rest, e⟩ := List.exists_cons_of_ne_nil hne
        have hm : c ∈ p.choices := by rw [e]; simp
        have := (ih c hm).pos
        rw [sum_map_len]
        exact Nat.lt_of_lt_of_le this (mem_le_sum (List.mem_map.2 ⟨c, hm, rfl⟩))
theorem acc_fit {n : Nat} {l : List PPart} (hp : ∀ p ∈ l, Fit (ofPartP (ofSeqP n) p) (sizePartP (sizeP n) p).1 (p.times + 1 + (p.choices.map fun c => bnd n c + 1).sum)) : ∀ k, k ≤ l.length → (seqAcc (sizeP n) l k).1 ≤ 16 →
    (ofAcc n l k).length = (seqAcc (sizeP n) l k).1 ∧ 0 < (ofAcc n l k).length ∧ (∀ x ∈ ofAcc n l k, (0 < k → x ≠ []) ∧ x.length ≤ ((l.map fun p => p.times + 1 + (p.choices.map fun c => bnd n c + 1).sum).take k).sum) ∧ ∀ j, j ≤ k → (seqAcc (sizeP n) l j).1 ≤ 16 := by
  intro k
  induction k with
  | zero =>
    intro _ h
    refine ⟨rfl, by show 0 < 1; omega, fun x hx => ?_, fun j hj => by rw [show j = 0 by omega]; exact h⟩
    have e : x = [] := by simpa [ofAcc] using hx
    exact ⟨fun h => absurd h (by omega), by rw [e]; simp⟩
  | succ k ih =>
    intro hk h
    have hs := seqAcc_succ (sizeP n) l k (by omega)
    have hf := hp _ (List.getElem_mem (show k < l.length by omega))
    rw [hs] at h
    have hm : min ((seqAcc (sizeP n) l k).1 * (sizePartP (sizeP n) l[k]).1) 17 ≤ 16 := h
    have hc1 : 1 ≤ (sizePartP (sizeP n) l[k]).1 := by have := hf.pos; have := hf.cnt; omega
    have hprod : (seqAcc (sizeP n) l k).1 * (sizePartP (sizeP n) l[k]).1 ≤ 16 := by omega
    have hle : (seqAcc (sizeP n) l k).1 ≤ 16 := Nat.le_trans (Nat.le_mul_of_pos_right _ hc1) hprod
    obtain ⟨i1, i2, i3, i4⟩ := ih (by omega) hle
    have he : (seqAcc (sizeP n) l (k + 1)).1 = (seqAcc (sizeP n) l k).1 * (sizePartP (sizeP n) l[k]).1 := by
      rw [hs]; show min _ 17 = _; omega
    rw [ofAcc_succ n l k (by omega)]
    refine ⟨by rw [eachP_len, i1, hf.cnt, he], by rw [eachP_len]; exact Nat.mul_pos i2 hf.pos, fun x hx => ?_, fun j hj => ?_⟩
    · obtain ⟨a, ha, b, hb, rfl⟩ := eachP_mem hx
      refine ⟨fun _ e => hf.ne b hb (List.append_eq_nil_iff.1 e).2, ?_⟩
      have h1 := (i3 a ha).2
      have h2 := hf.len b hb
      rw [List.take_succ_eq_append_getElem (by rw [List.length_map]; omega), List.sum_append, List.length_append]
      simp only [List.getElem_map, List.sum_cons, List.sum_nil]
      omega
    · by_cases e : j = k + 1
      · rw [e, he]; exact hprod
      · exact i4 j (by omega)
theorem seq_fit : ∀ n l, WF n l → Fit (ofSeqP n l) (sizeP n l).1 (bnd n l) := by
  intro n
  induction n with
  | zero => intro l h; exact h.elim
  | succ n ih =>
    rintro l ⟨hne, h16, _, hp⟩
    have e : seqAcc (sizeP n) l l.length = sizeP (n + 1) l := by unfold seqAcc; rw [List.take_length]; rfl
    obtain ⟨i1, i2, i3, _⟩ := acc_fit (n := n) (l := l) (fun p hpm => part_fit (hp p hpm).1 (fun c hc => ih c ((hp p hpm).2 c hc))) l.length (Nat.le_refl _) (by rw [e]; exact h16)
    rw [e, ofAcc_all] at i1
    rw [ofAcc_all] at i2 i3
    have hl : 0 < l.length := List.length_pos_iff.2 hne
    exact ⟨fun x hx => (i3 x hx).1 hl, fun x hx => Nat.le_trans (i3 x hx).2 (sum_take_le _ _), i1, i2⟩
end Go.Proofs.YtddbjcfdmdbmkaaGreatDoor

namespace Go.Proofs.YtddbjcfdmdbmkaaGreatDoor
open Go.RowKit

theorem paths_one {own : Nat → Nat} {w : World} {v : Value} {l : List PPart} (h : PathN own w v l) : ∃ own', Ext own w own' (w.alloc (.cells #[v] 111)) ∧ PathsLie own' (w.alloc (.cells #[v] 111)) (.slice (some ⟨w.heap.size, 0, none⟩) 1 1) [l] := by
  have hg : ∀ k, k < w.heap.size → put own w.heap.size 7 k = own k := fun k hk => put_other _ _ _ _ (by omega)
  refine ⟨put own w.heap.size 7, (Ext.refl own w).allocAs _ 7, [v], rfl, ⟨rfl, .inr ⟨w.heap.size, 1, _, rfl, Nat.zero_le _, heap_alloc_new w _, Nat.le_refl _, by unfold maxLen; decide, rfl, rfl⟩⟩, fun g e => by cases e; exact put_same _ _ _, fun q hq => ?_⟩
  simp only [List.zip_cons_cons, List.zip_nil_right, List.mem_singleton] at hq
  subst hq
  exact ⟨movePV (World.grownBy_alloc w _ none) (fun k e => by cases e) (fun k hk _ => hg k hk) h.1, h.2⟩
def PathsPost (own : Nat → Nat) (w : World) (ps : List (List PPart)) (v : Value) (w' : World) : Prop := ∃ own', Ext own w own' w' ∧ PathsLie own' w' v ps
theorem part_one {own : Nat → Nat} {w : World} {n : Nat} {p : PPart} {cv hv : Value} (h : PartLie own w n p cv hv) : ∀ u ∈ partCells (p, (cv, hv)), u.oneCell' = true := by
  obtain ⟨a, b, c, rfl⟩ := row_form h.1.1
  obtain ⟨a', b', c', rfl⟩ := h.2.form
  intro u hu
  simp only [partCells, List.mem_cons, List.not_mem_nil, or_false] at hu
  rcases hu with rfl | rfl | rfl | rfl | rfl | rfl <;> rfl
theorem rep_cells (p : PPart) (cv hv : Value) (c : Nat) : flat partCells ((List.replicate c p).zip (List.replicate c (cv, hv))) = (List.replicate c (partCells (p, (cv, hv)))).flatten := by
  induction c with
  | zero => rfl
  | succ c ih =>
    have e : flat partCells ((List.replicate (c + 1) p).zip (List.replicate (c + 1) (cv, hv))) = partCells (p, (cv, hv)) ++ flat partCells ((List.replicate c p).zip (List.replicate c (cv, hv))) := rfl
    rw [e, ih, List.replicate_succ, List.flatten_cons]
theorem repeat_p {own : Nat → Nat} {w : World} {n B c : Nat} {p : PPart} {cv hv : Value} (hB : Blk w B #[.string p.name, .int .i64 p.place, .int .i64 p.times, .int .i64 p.kind, cv, hv] 189) (h : PartLie own w n p cv hv) (h1 : 1 ≤ c) (h4 : c ≤ 4) :
    Calls Tryz.prog 171 #[.slice (some ⟨B, 0, none⟩) 1 1, .int .i64 c] w fun e w' => ∃ v, e = .returned v ∧ ∃ own', Ext own w own' w' ∧ PathN own' w' v (List.replicate c p) := by
  have ho := part_one h
  have key : ∀ w' v, w'.ownsRow w.heap.size 189 6 v c (List.replicate c (partCells (p, (cv, hv)))).flatten → Below w.heap.size w w' → ∃ own', Ext own w own' w' ∧ PathN own' w' v (List.replicate c p) := fun w' v hrow hb => by
    refine path_new (xs := List.replicate c (cv, hv)) (by simp) (fun e => by have := congrArg List.length e; simp at this; omega) (by rw [rep_cells, List.length_replicate]; exact hrow) (Nat.le_refl _) hb ?_
    intro q hq
    rw [List.zip_replicate, Nat.min_self] at hq
    have e := List.eq_of_mem_replicate hq
    subst e
    exact ⟨h.1, h.2.form⟩
  rcases (by omega : c = 1 ∨ c = 2 ∨ c = 3 ∨ c = 4) with rfl | rfl | rfl | rfl
  · refine (repeat_1 hB ho).mono ?_; rintro e w' ⟨v, rfl, hrow, hb⟩; exact ⟨v, rfl, key w' v hrow hb⟩
  · refine (repeat_2 hB ho).mono ?_; rintro e w' ⟨v, rfl, hrow, hb⟩; exact ⟨v, rfl, key w' v hrow hb⟩
  · refine (repeat_3 hB ho).mono ?_; rintro e w' ⟨v, rfl, hrow, hb⟩; exact ⟨v, rfl, key w' v hrow hb⟩
  · refine (repeat_4 hB ho).mono ?_; rintro e w' ⟨v, rfl, hrow, hb⟩; exact ⟨v, rfl, key w' v hrow hb⟩

set_option maxRecDepth 100000 in
set_option maxHeartbeats 800000 in
theorem ofPart_step {own : Nat → Nat} {w : World} {n : Nat} {p : PPart} {cv hv : Value} (h : PartLie own w n p cv hv) (hs : isStepB p = true) (h1 : 1 ≤ p.times) (h4 : p.times ≤ 4) :
    Calls Tryz.prog 135 #[partVal p cv hv] w fun e w' => ∃ v, e = .returned v ∧ PathsPost own w (ofPartP (ofSeqP n) p) v w' := by
  have HP : Hid (ofPartP (ofSeqP n) p = [List.replicate p.times p]) := by show _ = _; unfold ofPartP; rw [if_pos hs]
  have hcall := fun w => isStep_p p cv hv (row_form h.1.1) h.2.form w
  rw [hs] at hcall
  have hrep := fun (w' : World) (B : Nat) (hb : Below w.heap.size w w') hB => repeat_p (own := own) (w := w') (n := n) (B := B) (c := p.times) (p := p) (cv := cv) (hv := hv) hB (h.ext (Ext.of_below hb)) h1 h4
  obtain ⟨ca, cb, cc, rfl⟩ := row_form h.1.1
  obtain ⟨ha, hb, hc, rfl⟩ := h.2.form
  simp only [partVal] at hcall ⊢
  clear hs h
  go_enter Tryz.func135, Tryz.ntmps135
  go_wp2_with (first
    | (go_at_call 91; refine (hcall _).mono ?_; rintro e w1 ⟨rfl, o, rfl⟩)
    | (go_at_call 171; refine (hrep _ (w.heap.size + 1 + 1) ((((Below.refl _ w).alloc (Nat.le_refl _) _).alloc (by simp) _).alloc (by simp; omega) _) (alloc_at _ _ _ (by simp))).mono ?_; rintro e w2 ⟨v1, rfl, own2, he2, hN2⟩; obtain ⟨ra, rb, rc, rfl⟩ := hN2.1.form))
  go_ret
  obtain ⟨own3, he3, hL3⟩ := paths_one hN2
  have hE := (fun hx => Ext.trans (Ext.of_below (own := own) (w := w) hx) he2) ((((Below.refl _ w).alloc (Nat.le_refl _) _).alloc (by simp) _).alloc (by simp; omega) _)
  rw [HP.out]
  exact ⟨_, rfl, own3, hE.trans he3, hL3⟩

set_option maxRecDepth 100000 in
set_option maxHeartbeats 800000 in
theorem ofPart_guard {own : Nat → Nat} {w : World} {n : Nat} {p : PPart} {cv hv : Value} (h : PartLie own w n p cv hv) (hs : isStepB p = false) (hc0 : p.choices = []) :
    Calls Tryz.prog 135 #[partVal p cv hv] w fun e w' => ∃ v, e = .returned v ∧ PathsPost own w (ofPartP (ofSeqP n) p) v w' := by
  have HP : Hid (ofPartP (ofSeqP n) p = [[p]]) := by show _ = _; unfold ofPartP; rw [if_neg (by simp [hs]), if_pos (by simp [hc0])]
  have hcall := fun w => isStep_p p cv hv (row_form h.1.1) h.2.form w
  rw [hs] at hcall
  have hv0 : hv = .slice none 0 0 := by
    rcases h.2 with ⟨_, e⟩ | ⟨e, _⟩
    · exact e
    · exact absurd hc0 e
  subst hv0
  have hnil := nil_yes
  have hPL : Hid (PartLie own w n p cv (.slice none 0 0)) := h
  obtain ⟨ca, cb, cc, rfl⟩ := row_form h.1.1
  simp only [partVal] at hcall ⊢
  clear hs h
  go_enter Tryz.func135, Tryz.ntmps135
  go_wp2_with (go_at_call 91; refine (hcall _).mono ?_; rintro e w1 ⟨rfl, o, rfl⟩)
  go_ret
  rw [HP.out]
  refine ⟨_, rfl, ?_⟩
  have hb2 : Below w.heap.size w (((w.alloc (.cells #[.string p.name, .int .i64 p.place, .int .i64 p.times, .int .i64 p.kind, .slice ca cb cc, .slice none 0 0] 189)).alloc o).alloc (.cells #[.string p.name, .int .i64 p.place, .int .i64 p.times, .int .i64 p.kind, .slice ca cb cc, .slice none 0 0] 189)) := (((Below.refl _ w).alloc (Nat.le_refl _) _).alloc (by simp) _).alloc (by simp; omega) _
  obtain ⟨own2, he2, hN2⟩ := path_new (own := own) (w := w) (l := [p]) (xs := [(.slice ca cb cc, .slice none 0 0)]) (v := .slice (some ⟨w.heap.size + 1 + 1, 0, none⟩) 1 1) (B := w.heap.size) rfl (by simp) ⟨rfl, .inr ⟨w.heap.size + 1 + 1, 1, _, rfl, by omega, alloc_at _ _ _ (by simp), Nat.le_refl _, by unfold maxLen; decide, rfl, rfl⟩⟩ (Nat.le_refl _) hb2 (fun q hq => by simp only [List.zip_cons_cons, List.zip_nil_right, List.mem_singleton] at hq; subst hq; exact ⟨hPL.out.1, _, _, _, rfl⟩)
  obtain ⟨own3, he3, hL3⟩ := paths_one hN2
  simp only [alloc_size] at hL3
  exact ⟨own3, he2.trans he3, hL3⟩
end Go.Proofs.YtddbjcfdmdbmkaaGreatDoor

namespace Go.Proofs.YtddbjcfdmdbmkaaGreatDoor
open Go.RowKit

theorem EB.appM {own own' : Nat → Nat} {w wr w4 : World} {v : Value} {acc ps : List (List PPart)} {vs us : List Value} {g cap : Nat} (h : EB own w v own' acc vs wr) (hul : us.length = ps.length) (hl : ∀ q ∈ ps.zip us, PathN own' wr q.2 q.1)
    (hown : w4.ownsRow 0 111 1 (.slice (some ⟨g, 0, none⟩) (acc.length + ps.length) cap) (acc.length + ps.length) (vs ++ us)) (hgrow : wr.grownBy w4 v.ownBlock) (hat : v.ownBlock = some g ∨ g = wr.heap.size) :
    EB own w (.slice (some ⟨g, 0, none⟩) (acc.length + ps.length) cap) (put own' g 8) (acc ++ ps) (vs ++ us) w4 := by
  have hr8 : ∀ k, v.ownBlock = some k → own' k = 8 := fun k hk => (h.col k hk).1
  have hgw : w.heap.size ≤ g := by
    rcases hat with e | e
    · exact (h.col g e).2
    · have := h.ext.size; omega
  have hmv : ∀ v s, PathN own' wr v s → PathN (put own' g 8) w4 v s := fun v' s' hq =>
    ⟨movePV hgrow hr8 (fun k hk hne => by
      by_cases e : k = g
      · subst e
        rcases hat with e | e
        · exact absurd (hr8 k e) hne
        · omega
      · exact put_other _ _ _ _ e) hq.1, hq.2⟩
  refine ⟨h.ext.appC hgrow (fun k hk => (h.col k hk).2) hat, by simp [h.len, hul], by rw [List.length_append]; exact hown, fun k e => by cases e; exact ⟨put_same _ _ _, hgw⟩, ?_⟩
  intro q hq
  rw [List.zip_append h.len.symm] at hq
  rcases List.mem_append.1 hq with hq | hq
  · exact hmv _ _ (h.lie q hq)
  · exact hmv _ _ (hl q hq)
theorem PathsLie.row {own : Nat → Nat} {w : World} {v : Value} {ps : List (List PPart)} (h : PathsLie own w v ps) (h0 : 0 < ps.length) : ∃ g cap vs, v = .slice (some ⟨g, 0, none⟩) ps.length cap ∧ vs.length = ps.length ∧ (∀ j u, vs[j]? = some u → w.cell? ((⟨g, 0, none⟩ : Addr).add j) = some u) ∧ (∀ u ∈ vs, u.oneCell' = true) ∧ ∀ q ∈ ps.zip vs, PathN own w q.2 q.1 := by
  obtain ⟨vs, hl, hrow, hcol, hlie⟩ := h
  rcases hrow.2 with ⟨_, h0'⟩ | ⟨g, cap, cur, rfl, _, hg, _⟩
  · omega
  · refine ⟨g, cap, vs, rfl, hl, fun j u hu => hrow.cells (g := g) rfl j u hu, fun u hu => ?_, hlie⟩
    obtain ⟨k, hk, rfl⟩ := List.getElem_of_mem hu
    have hz : k < (ps.zip vs).length := by rw [List.length_zip]; omega
    have := hlie _ (List.getElem_mem hz)
    simp only [List.getElem_zip] at this
    obtain ⟨a, b, c, e⟩ := this.1.form
    rw [e]; rfl

def OfC (n : Nat) : Prop := ∀ (own : Nat → Nat) (w : World) (v : Value) (l : List PPart), SeqLie own w n v l → WF n l →
  Calls Tryz.prog 85 #[v] w fun e w' => ∃ r, e = .returned r ∧ PathsPost own w (ofSeqP n l) r w'
theorem flat_succ (rec : List PPart → List (List PPart)) (c : List (List PPart)) (k : Nat) (h : k < c.length) : (c.take (k + 1)).flatMap rec = (c.take k).flatMap rec ++ rec c[k] := by
  rw [List.take_succ_eq_append_getElem h, List.flatMap_append]; simp

set_option maxRecDepth 100000 in
set_option maxHeartbeats 1600000 in
theorem ofPart_brk {n : Nat} (ih : OfC n) {own : Nat → Nat} {w : World} {p : PPart} {cv hv : Value} (h : PartLie own w n p cv hv) (hs : isStepB p = false) (hc0 : p.choices ≠ []) (hw : ∀ c ∈ p.choices, WF n c) (hcnt : (p.choices.flatMap (ofSeqP n)).length ≤ 1000) (hcl : p.choices.length ≤ 100000) :
    Calls Tryz.prog 135 #[partVal p cv hv] w fun e w' => ∃ v, e = .returned v ∧ PathsPost own w (ofPartP (ofSeqP n) p) v w' := by
  have HP : Hid (ofPartP (ofSeqP n) p = p.choices.flatMap (ofSeqP n)) := by show _ = _; unfold ofPartP; rw [if_neg (by simp [hs]), if_neg (by simpa using hc0)]
  have hcall := fun w => isStep_p p cv hv (row_form h.1.1) h.2.form w
  rw [hs] at hcall
  obtain ⟨g, cap, rfl, hg, hcell⟩ := h.2.open hc0
  have hnil := nil_no
  have hg7 : own g = 7 := by
    rcases h.2 with ⟨_, e⟩ | ⟨_, _, _, _, hcol, _⟩
    · cases e
    · exact hcol g rfl
  obtain ⟨i0, hi0, hz0, hz1, hz2⟩ := info_parts Tryz.infoPath
  obtain ⟨ca, cb, cc, rfl⟩ := row_form h.1.1
  have HL : ∀ k, k ≤ p.choices.length → ((p.choices.take k).flatMap (ofSeqP n)).length ≤ 1000 := fun k hk => by
    refine Nat.le_trans ?_ hcnt
    rw [sum_map_len, sum_map_len, List.map_take]; exact sum_take_le _ _
  simp only [partVal] at hcall ⊢
  generalize p.choices = c at *
  clear hs h hcnt
  go_enter Tryz.func135, Tryz.ntmps135
  go_wp2_with (go_at_call 91; refine (hcall _).mono ?_; rintro e w1 ⟨rfl, o, rfl⟩)
  go_loopw [3, 25] (fun v i wr => ∃ (k : Nat) (own' : Nat → Nat) (vs : List Value), k ≤ c.length ∧ i = .int .i64 k ∧ EB own w v own' ((c.take k).flatMap (ofSeqP n)) vs wr) (fun _ i _ => c.length - (intOf i).toNat)
  case atStart => exact ⟨0, own, [], Nat.zero_le _, rfl, (EB.start own w).next (Ext.of_below (((Below.refl _ w).alloc (Nat.le_refl _) _).alloc (by simp) _))⟩
  case round =>
    obtain ⟨k, own', vs, hk, rfl, hEB⟩ := hrel
    obtain ⟨va, vb, vc, rfl⟩ := row_form hEB.row
    by_cases hlt : k < c.length
    · obtain ⟨sv, hS, hcl2⟩ := hcell k hlt
      have eh := hEB.ext.kept.block g ⟨hg, by rw [hg7]; decide⟩
      have hcl' := (cell_eq eh k).trans hcl2
      have hS' := SeqLie.ext hEB.ext n _ _ hS
      have hcall2 := ih own' wr sv c[k] hS' (hw _ (List.getElem_mem hlt))
      have hpos := (seq_fit n c[k] (hw _ (List.getElem_mem hlt))).pos
      obtain ⟨sa, sb, sc, rfl⟩ := hS.form
      have HF : Hid ((c.take (k + 1)).flatMap (ofSeqP n) = (c.take k).flatMap (ofSeqP n) ++ ofSeqP n c[k]) := flat_succ _ c k hlt
      have hL1 := HL (k + 1) hlt
      rw [HF.out, List.length_append] at hL1
      have hki : (k : Int) < (c.length : Int) := by omega
      have hk0 : (0 : Int) ≤ (k : Int) := by omega
      generalize ofSeqP n c[k] = ps at *
      generalize (c.take k).flatMap (ofSeqP n) = acc at *
      clear hcell HL eh hcl2 hS hS'
      go_wp2_with (first
        | (go_at_call 85; refine hcall2.mono ?_; rintro e w3 ⟨r, rfl, own3, he3, hL3⟩; obtain ⟨gp, cp, us, rfl, hul, hnews, hone, hlie⟩ := hL3.row hpos; have hEB3 := hEB.next he3)
        | (at_builtin; refine wpList_append_lies _ rfl (.tmp 29) (.tmp 31) 65 rfl 0 111 i0 _ 1 24 Tryz.underlying65 hi0 hz0 hz1 hz2 rfl (by decide) _ acc.length vs (by rfl) hEB3.row ⟨gp, 0, none⟩ ps.length cp us (by rfl) (by rw [hul]; simp) hnews hone hpos (by unfold maxLen; omega) (by omega) (Nat.zero_le _) w3.heap.size rfl ?_; intro g4 cap4 w4 hown hgrow hat hlt4))
      have hEB4 := hEB3.appM hul hlie hown hgrow hat
      go_roundw
      case rel => exact ⟨k + 1, _, _, hlt, by go_num, by rw [HF.out]; exact hEB4⟩
      case measure => simp [intOf]; omega
    · have ek : k = c.length := by omega
      subst ek
      have HE : Hid (c.take c.length = c) := List.take_length
      rw [HE.out] at hEB
      go_wp2
      go_ret
      rw [HP.out]
      exact ⟨_, rfl, hEB.done⟩
end Go.Proofs.YtddbjcfdmdbmkaaGreatDoor

namespace Go.Proofs.YtddbjcfdmdbmkaaGreatDoor
open Go.RowKit

theorem ofPart_p {n : Nat} (ih : OfC n) {own : Nat → Nat} {w : World} {p : PPart} {cv hv : Value} (h : PartLie own w n p cv hv) (hs : isStepB p = true → 1 ≤ p.times ∧ p.times ≤ 4 ∧ p.choices = []) (hw : ∀ c ∈ p.choices, WF n c) (hcnt : (ofPartP (ofSeqP n) p).length ≤ 1000) (hcl : p.choices.length ≤ 100000) :
    Calls Tryz.prog 135 #[partVal p cv hv] w fun e w' => ∃ v, e = .returned v ∧ PathsPost own w (ofPartP (ofSeqP n) p) v w' := by
  by_cases h1 : isStepB p = true
  · exact ofPart_step h h1 (hs h1).1 (hs h1).2.1
  · have h1' : isStepB p = false := by simpa using h1
    by_cases h2 : p.choices = []
    · exact ofPart_guard h h1' h2
    · have e : ofPartP (ofSeqP n) p = p.choices.flatMap (ofSeqP n) := by unfold ofPartP; rw [if_neg h1, if_neg (by simpa using h2)]
      exact ofPart_brk ih h h1' h2 hw (by rw [← e]; exact hcnt) hcl

theorem nil_path (own : Nat → Nat) (w : World) : PathN own w (.slice none 0 0) [] := ⟨.inl ⟨rfl, none, 0, rfl⟩, fun _ => rfl⟩

set_option maxRecDepth 100000 in
set_option maxHeartbeats 1600000 in
theorem ofSequence_p : ∀ n, OfC n := by
  intro n
  induction n with
  | zero => intro own w v l h hw; exact hw.elim
  | succ n ih =>
    rintro own w v l h ⟨hne, h16, hb, hp⟩
    have hFit : ∀ p ∈ l, Fit (ofPartP (ofSeqP n) p) (sizePartP (sizeP n) p).1 (p.times + 1 + (p.choices.map fun c => bnd n c + 1).sum) := fun p hpm => part_fit (hp p hpm).1 (fun c hc => seq_fit n c ((hp p hpm).2 c hc))
    have e : seqAcc (sizeP n) l l.length = sizeP (n + 1) l := by unfold seqAcc; rw [List.take_length]; rfl
    have HA := (acc_fit hFit l.length (Nat.le_refl _) (by rw [e]; exact h16)).2.2.2
    have hbn : ∀ k, (((l.map fun p => p.times + 1 + (p.choices.map fun c => bnd n c + 1).sum)).take k).sum ≤ 100000 := fun k => Nat.le_trans (sum_take_le _ k) hb
    have HK : ∀ k, k ≤ l.length → (ofAcc n l k).length ≤ 16 ∧ 0 < (ofAcc n l k).length ∧ ∀ x ∈ ofAcc n l k, x.length ≤ 100000 := fun k hk => by
      obtain ⟨a1, a2, a3, _⟩ := acc_fit hFit k hk (HA k hk)
      have := HA k hk
      exact ⟨by omega, a2, fun x hx => Nat.le_trans (a3 x hx).2 (hbn k)⟩
    have HQ : ∀ k, (hk : k < l.length) → (ofPartP (ofSeqP n) l[k]).length ≤ 16 ∧ 0 < (ofPartP (ofSeqP n) l[k]).length ∧ (∀ x ∈ ofPartP (ofSeqP n) l[k], x ≠ []) ∧ (∀ x ∈ ofPartP (ofSeqP n) l[k], x.length ≤ 100000) ∧ l[k].choices.length ≤ 100000 ∧ (ofAcc n l k).length * (ofPartP (ofSeqP n) l[k]).length ≤ 1000000 := fun k hk => by
      have f := hFit _ (List.getElem_mem hk)
      have a1 := (HK (k + 1) hk).1
      have a2 := (HK k (by omega)).2.1
      rw [ofAcc_succ n l k hk, eachP_len] at a1
      have hbp : l[k].times + 1 + (l[k].choices.map fun c => bnd n c + 1).sum ≤ 100000 := Nat.le_trans (bnd_choices (List.getElem_mem hk)) hb
      have hl := len_le_sum (l[k].choices.map fun x => bnd n x + 1) (fun a ha => by obtain ⟨x, _, rfl⟩ := List.mem_map.1 ha; omega)
      rw [List.length_map] at hl
      exact ⟨Nat.le_trans (Nat.le_mul_of_pos_left _ a2) a1, f.pos, f.ne, fun x hx => Nat.le_trans (f.len x hx) hbp, by omega, by omega⟩
    have hlen : l.length ≤ 100000 := Nat.le_trans bnd_len hb
    have HP : Hid (ofSeqP (n + 1) l = ofAcc n l l.length) := (ofAcc_all n l).symm
    rcases h.open with ⟨h0, _⟩ | ⟨g, cap, rfl, hg, _⟩
    · exact absurd h0 hne
    clear hFit HA hbn e h16 hb
    go_enter Tryz.func85, Tryz.ntmps85
    go_wp2
    go_loopw [3, 9] (fun v i wr => ∃ (k : Nat) (own' : Nat → Nat), k ≤ l.length ∧ i = .int .i64 k ∧ Ext own w own' wr ∧ PathsLie own' wr v (ofAcc n l k)) (fun _ i _ => l.length - (intOf i).toNat)
    case atStart =>
      obtain ⟨own', hE, hL⟩ := paths_one (nil_path own w)
      exact ⟨0, own', Nat.zero_le _, rfl, hE, hL⟩
    case round =>
      obtain ⟨k, own', hk, rfl, hE, hL⟩ := hrel
      obtain ⟨k1, k2, k3⟩ := HK k hk
      obtain ⟨gp, cp, rfl, _, _, _⟩ := hL.open k2
      by_cases hlt : k < l.length
      · rcases (SeqLie.ext hE (n + 1) _ _ h).open with ⟨h0, _⟩ | ⟨g2, cap2, e2, _, hcell⟩
        · exact absurd h0 hne
        cases e2
        obtain ⟨cv, hv, hPL, c0, c1, c2, c3, c4, c5⟩ := hcell k hlt
        obtain ⟨q1, q2, q3, q4, q5, q6⟩ := HQ k hlt
        have hpk := hp _ (List.getElem_mem hlt)
        have hE1 : Ext own' wr own' (wr.alloc (.cells #[.string l[k].name, .int .i64 l[k].place, .int .i64 l[k].times, .int .i64 l[k].kind, cv, hv] 189)) := Ext.of_below ((Below.refl _ wr).alloc (Nat.le_refl _) _)
        have hcall := ofPart_p ih (hPL.ext hE1) hpk.1 hpk.2 (by omega) q5
        obtain ⟨ca, cb, cc, rfl⟩ := row_form hPL.1.1
        obtain ⟨ha, hb, hc, rfl⟩ := hPL.2.form
        have HS : Hid (ofAcc n l (k + 1) = eachP (ofAcc n l k) (ofPartP (ofSeqP n) l[k])) := ofAcc_succ n l k hlt
        have hki : (k : Int) < (l.length : Int) := by omega
        have hk0 : (0 : Int) ≤ (k : Int) := by omega
        simp only [partVal] at hcall
        clear hcell HK HQ hPL hpk h hp
        generalize ofPartP (ofSeqP n) l[k] = ps at *
        generalize ofAcc n l k = acc at *
        go_wp2_with (first
          | (go_at_call 134; refine (eachBehind_p hL3 hR3 k2 q2 q3 q6 k3 q4).mono ?_; rintro e w4 ⟨v4, rfl, own4, he4, hL4⟩)
          | (go_at_call 135; refine hcall.mono ?_; rintro e w3 ⟨r, rfl, own3, he3, hR3⟩; have hL3 := hL.ext (hE1.trans he3)))
        go_roundw
        case rel => exact ⟨k + 1, own4, hlt, by go_num, hE.trans ((hE1.trans he3).trans he4), by rw [HS.out]; exact hL4⟩
        case measure => simp [intOf]; omega
      · have ek : k = l.length := by omega
        subst ek
        go_wp2
        go_ret
        rw [HP.out]
        exact ⟨_, rfl, own', hE, hL⟩
end Go.Proofs.YtddbjcfdmdbmkaaGreatDoor
