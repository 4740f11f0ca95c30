import Derived.Test.YtddbjcfdmdbmkaaGreatDoorB31
set_option linter.unusedVariables false
set_option linter.unusedSimpArgs false
/-
  The program's watch: bind.
-/
namespace Go.Proofs.YtddbjcfdmdbmkaaGreatDoor
open Go.RowKit

theorem Tryz.infoWop : (Tryz.prog.info? 245).map (fun i => (i.zero, i.size, i.bytes)) = some (some (.agg #[.string ⟨#[]⟩, .int .i64 0]), 2, 24) := by kernel_rfl
def isFieldB (a : ByteArray) : Bool := a.toList == [97] || a.toList == [98] || a.toList == [99] || a.toList == [116]
def bindOp (names : List ByteArray) (o : POp) : ByteArray × Nat := (o.act, if isFieldB o.act then stepOfP o.name names else o.number)
def bcells (b : ByteArray × Nat) : List Value := [.string b.1, .int .i64 b.2]
theorem map_take (f : POp → ByteArray × Nat) (l : List POp) (k : Nat) (h : k < l.length) : (l.take (k + 1)).map f = (l.take k).map f ++ [f l[k]] := by
  rw [List.take_succ_eq_append_getElem h, List.map_append]; rfl

set_option maxRecDepth 100000 in
set_option maxHeartbeats 1600000 in
theorem bind_w {w : World} {g cap G C : Nat} {ops : List POp} {names : List ByteArray} (hG : G < w.heap.size) (hO : ∀ k, (hk : k < ops.length) → w.cell? ⟨G, k * 4, none⟩ = some (.string ops[k].act) ∧ w.cell? ⟨G, k * 4 + 1, none⟩ = some (.int .i64 ops[k].number) ∧ w.cell? ⟨G, k * 4 + 2, none⟩ = some (.string ops[k].name) ∧ w.cell? ⟨G, k * 4 + 3, none⟩ = some (.int .i64 ops[k].place)) (hol : ops.length ≤ 1000000)
    (hg : g < w.heap.size) (hN : ∀ k, (hk : k < names.length) → w.cell? ⟨g, k, none⟩ = some (.string names[k])) (h1 : 1 ≤ names.length) (hnl : names.length ≤ 1000000) :
    Calls Tryz.prog 90 #[.slice (some ⟨G, 0, none⟩) ops.length C, .slice (some ⟨g, 0, none⟩) names.length cap] w fun e w' => ∃ v, e = .returned v ∧ w'.ownsRow w.heap.size 245 2 v ops.length (flat bcells (ops.map (bindOp names))) ∧ Below w.heap.size w w' := by
  obtain ⟨i0, hi0, hz0, hz1, hz2⟩ := info_parts Tryz.infoWop
  go_enter Tryz.func90, Tryz.ntmps90
  go_wp2
  go_loopw [5, 11] (fun v i wr => ∃ (k : Nat) (acc : List (ByteArray × Nat)), k ≤ ops.length ∧ i = .int .i64 k ∧ acc = (ops.take k).map (bindOp names) ∧ wr.ownsRow w.heap.size 245 2 v acc.length (flat bcells acc) ∧ Below w.heap.size w wr) (fun _ i _ => ops.length - (intOf i).toNat)
  case atStart => exact ⟨0, [], Nat.zero_le _, rfl, rfl, World.ownsRow_nil _ _ _ _, Below.refl _ _⟩
  case round =>
    obtain ⟨k, acc, hk, rfl, hacc, hrow2, hbel⟩ := hrel
    have hal : acc.length = k := by rw [hacc, List.length_map, List.length_take]; omega
    obtain ⟨va, vb, vc, rfl⟩ := row_form hrow2
    have hws := hbel.size
    by_cases hlt : k < ops.length
    · obtain ⟨c0, c1, c2, c3⟩ := hO k hlt
      have tr : ∀ i u, w.cell? ⟨G, k * 4 + i, none⟩ = some u → wr.cell? ⟨G, k * 4 + i, none⟩ = some u := fun i u e => (hbel.cell (p := ⟨G, k * 4 + i, none⟩) hG).trans e
      have d0 := tr 0 _ c0; have d1 := tr 1 _ c1; have d2 := tr 2 _ c2; have d3 := tr 3 _ c3
      rw [Nat.add_zero] at d0
      have HT : Hid ((ops.take (k + 1)).map (bindOp names) = acc ++ [bindOp names ops[k]]) := by show _ = _; rw [map_take _ _ _ hlt, hacc]
      have hki : (k : Int) < (ops.length : Int) := by omega
      have hk0 : (0 : Int) ≤ (k : Int) := by omega
      have hstep := stepOf_w (w := wr.alloc (.cells #[.string ops[k].act, .int .i64 ops[k].number, .string ops[k].name, .int .i64 ops[k].place] 241)) (name := ops[k].name) (g := g) (cap := cap) (names := names) (fun j hj => ((hbel.alloc hbel.size _).cell (p := ⟨g, j, none⟩) hg).trans (hN j hj)) h1 hnl
      generalize ops[k] = o at *
      clear hO hN tr c0 c1 c2 c3 hacc
      have hal2 : acc.length ≤ 1000000 := by omega
      clear hal
      cases x1 : o.act.toList == [97] with
      | true =>
        have HV : Hid (bindOp names o = (o.act, (stepOfP o.name names))) := by show _ = _; unfold bindOp isFieldB; simp [x1]
        go_wp2_with (first
          | (go_at_call 140; refine hstep.mono ?_; rintro e w1 ⟨rfl, he⟩; rw [he]; clear he)
          | (at_builtin; refine wpList_append_lies _ rfl (.tmp 28) (.tmp 33) 191 rfl w.heap.size 245 i0 _ 2 24 Tryz.underlying191 hi0 hz0 hz1 hz2 rfl (by decide) _ acc.length (flat bcells acc) (by rfl) ((hrow2.alloc _).alloc _) ⟨wr.heap.size + 1, 0, none⟩ 1 1 (bcells (o.act, (stepOfP o.name names))) (by rfl) rfl (World.news_of_block (alloc_at _ _ _ (by simp))) (by simp [bcells, Value.oneCell']) (by decide) (by unfold maxLen; omega) (by omega) (by simp; omega) (wr.heap.size + 1 + 1) (by simp) ?_; intro g4 cap4 w4 hown hgrow hat hlt4))
        go_roundw
        case rel => exact ⟨k + 1, acc ++ [bindOp names o], hlt, by go_num, by rw [HT.out], (by rw [HV.out, flat_snoc, List.length_append]; exact hown), below_grown ((hbel.alloc hbel.size _).alloc (by simp; have := hbel.size; omega) _) hgrow (fun k hk => (hrow2.lt k hk).1)⟩
        case measure => simp [intOf]; omega
      | false =>
       cases x2 : o.act.toList == [98] with
       | true =>
        have HV : Hid (bindOp names o = (o.act, (stepOfP o.name names))) := by show _ = _; unfold bindOp isFieldB; simp [x1, x2]
        go_wp2_with (first
          | (go_at_call 140; refine hstep.mono ?_; rintro e w1 ⟨rfl, he⟩; rw [he]; clear he)
          | (at_builtin; refine wpList_append_lies _ rfl (.tmp 28) (.tmp 33) 191 rfl w.heap.size 245 i0 _ 2 24 Tryz.underlying191 hi0 hz0 hz1 hz2 rfl (by decide) _ acc.length (flat bcells acc) (by rfl) ((hrow2.alloc _).alloc _) ⟨wr.heap.size + 1, 0, none⟩ 1 1 (bcells (o.act, (stepOfP o.name names))) (by rfl) rfl (World.news_of_block (alloc_at _ _ _ (by simp))) (by simp [bcells, Value.oneCell']) (by decide) (by unfold maxLen; omega) (by omega) (by simp; omega) (wr.heap.size + 1 + 1) (by simp) ?_; intro g4 cap4 w4 hown hgrow hat hlt4))
        go_roundw
        case rel => exact ⟨k + 1, acc ++ [bindOp names o], hlt, by go_num, by rw [HT.out], (by rw [HV.out, flat_snoc, List.length_append]; exact hown), below_grown ((hbel.alloc hbel.size _).alloc (by simp; have := hbel.size; omega) _) hgrow (fun k hk => (hrow2.lt k hk).1)⟩
        case measure => simp [intOf]; omega
       | false =>
        cases x3 : o.act.toList == [99] with
        | true =>
         have HV : Hid (bindOp names o = (o.act, (stepOfP o.name names))) := by show _ = _; unfold bindOp isFieldB; simp [x1, x2, x3]
         go_wp2_with (first
           | (go_at_call 140; refine hstep.mono ?_; rintro e w1 ⟨rfl, he⟩; rw [he]; clear he)
           | (at_builtin; refine wpList_append_lies _ rfl (.tmp 28) (.tmp 33) 191 rfl w.heap.size 245 i0 _ 2 24 Tryz.underlying191 hi0 hz0 hz1 hz2 rfl (by decide) _ acc.length (flat bcells acc) (by rfl) ((hrow2.alloc _).alloc _) ⟨wr.heap.size + 1, 0, none⟩ 1 1 (bcells (o.act, (stepOfP o.name names))) (by rfl) rfl (World.news_of_block (alloc_at _ _ _ (by simp))) (by simp [bcells, Value.oneCell']) (by decide) (by unfold maxLen; omega) (by omega) (by simp; omega) (wr.heap.size + 1 + 1) (by simp) ?_; intro g4 cap4 w4 hown hgrow hat hlt4))
         go_roundw
         case rel => exact ⟨k + 1, acc ++ [bindOp names o], hlt, by go_num, by rw [HT.out], (by rw [HV.out, flat_snoc, List.length_append]; exact hown), below_grown ((hbel.alloc hbel.size _).alloc (by simp; have := hbel.size; omega) _) hgrow (fun k hk => (hrow2.lt k hk).1)⟩
         case measure => simp [intOf]; omega
        | false =>
         cases x4 : o.act.toList == [116] with
         | true =>
          have HV : Hid (bindOp names o = (o.act, (stepOfP o.name names))) := by show _ = _; unfold bindOp isFieldB; simp [x1, x2, x3, x4]
          go_wp2_with (first
            | (go_at_call 140; refine hstep.mono ?_; rintro e w1 ⟨rfl, he⟩; rw [he]; clear he)
            | (at_builtin; refine wpList_append_lies _ rfl (.tmp 28) (.tmp 33) 191 rfl w.heap.size 245 i0 _ 2 24 Tryz.underlying191 hi0 hz0 hz1 hz2 rfl (by decide) _ acc.length (flat bcells acc) (by rfl) ((hrow2.alloc _).alloc _) ⟨wr.heap.size + 1, 0, none⟩ 1 1 (bcells (o.act, (stepOfP o.name names))) (by rfl) rfl (World.news_of_block (alloc_at _ _ _ (by simp))) (by simp [bcells, Value.oneCell']) (by decide) (by unfold maxLen; omega) (by omega) (by simp; omega) (wr.heap.size + 1 + 1) (by simp) ?_; intro g4 cap4 w4 hown hgrow hat hlt4))
          go_roundw
          case rel => exact ⟨k + 1, acc ++ [bindOp names o], hlt, by go_num, by rw [HT.out], (by rw [HV.out, flat_snoc, List.length_append]; exact hown), below_grown ((hbel.alloc hbel.size _).alloc (by simp; have := hbel.size; omega) _) hgrow (fun k hk => (hrow2.lt k hk).1)⟩
          case measure => simp [intOf]; omega
         | false =>
          have HV : Hid (bindOp names o = (o.act, o.number)) := by show _ = _; unfold bindOp isFieldB; simp [x1, x2, x3, x4]
          go_wp2_with (first
            | (at_builtin; refine wpList_append_lies _ rfl (.tmp 28) (.tmp 33) 191 rfl w.heap.size 245 i0 _ 2 24 Tryz.underlying191 hi0 hz0 hz1 hz2 rfl (by decide) _ acc.length (flat bcells acc) (by rfl) ((hrow2.alloc _).alloc _) ⟨wr.heap.size + 1, 0, none⟩ 1 1 (bcells (o.act, o.number)) (by rfl) rfl (World.news_of_block (alloc_at _ _ _ (by simp))) (by simp [bcells, Value.oneCell']) (by decide) (by unfold maxLen; omega) (by omega) (by simp; omega) (wr.heap.size + 1 + 1) (by simp) ?_; intro g4 cap4 w4 hown hgrow hat hlt4))
          go_roundw
          case rel => exact ⟨k + 1, acc ++ [bindOp names o], hlt, by go_num, by rw [HT.out], (by rw [HV.out, flat_snoc, List.length_append]; exact hown), below_grown ((hbel.alloc hbel.size _).alloc (by simp; have := hbel.size; omega) _) hgrow (fun k hk => (hrow2.lt k hk).1)⟩
          case measure => simp [intOf]; omega
    · have ek : k = ops.length := by omega
      subst ek
      rw [List.take_length] at hacc
      have HA : Hid (acc = ops.map (bindOp names)) := hacc
      clear hacc
      go_wp2
      go_ret
      rw [← HA.out]
      rw [hal] at hrow2
      exact ⟨_, rfl, hrow2, hbel⟩
end Go.Proofs.YtddbjcfdmdbmkaaGreatDoor
