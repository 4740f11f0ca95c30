import Derived.Test.YtddbjcfdmdbmkaaGreatDoorP03
import Derived.Test.YtddbjcfdmdbmkaaGreatDoorP01
set_option linter.unusedVariables false
set_option linter.unusedSimpArgs false
/-
  The program's Print: Join.
-/
namespace Go.Proofs.YtddbjcfdmdbmkaaGreatDoor
open Go.RowKit

def STok.val (t : STok) : Value := .agg #[.int .i64 t.kind, .int .i64 t.place, .string t.text]
theorem list_empty {l : List UInt8} : (l.isEmpty = true ∧ l = []) ∨ (l.isEmpty = false ∧ l ≠ []) := by cases l <;> simp
set_option maxRecDepth 100000 in
set_option maxHeartbeats 800000 in
theorem plain_p (t : STok) (w : World) : Calls Tryz.prog 66 #[t.val] w fun e w' => e = .returned (.string ⟨(plainL t).toArray⟩) ∧ w' = w.alloc (.cells #[.int .i64 t.kind, .int .i64 t.place, .string t.text] 141) := by
  unfold STok.val
  by_cases hk : t.kind = 2
  · have hT := fun w => Tryz.TrimLeft_one t.text 48 (by decide) w
    have HP : Hid (plainL t = if (t.text.data.toList.dropWhile (· == 48)).isEmpty then [48] else t.text.data.toList.dropWhile (· == 48)) := by show _ = _; unfold plainL trimL; rw [if_pos hk]
    unfold Lib.trimLeftB at hT
    generalize t.text.data.toList.dropWhile (· == 48) = d at *
    have hk' : (t.kind : Int) = 2 := by omega
    generalize (t.kind : Int) = kd at *
    subst hk'
    clear hk
    rcases list_empty (l := d) with ⟨he, rfl⟩ | ⟨he, hne⟩
    · go_enter Tryz.func66, Tryz.ntmps66
      go_wp2_with (go_at_call 101; refine (hT _).mono ?_; rintro e w1 ⟨rfl, rfl⟩)
      go_ret
      rw [HP.out]
      exact ⟨rfl, rfl⟩
    · have hb : (ByteArray.toList ⟨d.toArray⟩).isEmpty = false := by rw [toList_data]; simpa using he
      go_enter Tryz.func66, Tryz.ntmps66
      go_wp2_with (go_at_call 101; refine (hT _).mono ?_; rintro e w1 ⟨rfl, rfl⟩)
      go_ret
      rw [HP.out, if_neg (by rw [he]; decide)]
      exact ⟨rfl, rfl⟩
  · have HP : Hid (plainL t = t.text.data.toList) := by show _ = _; unfold plainL; rw [if_neg hk]
    have hk' : ¬ (t.kind : Int) = 2 := by omega
    clear hk
    go_enter Tryz.func66, Tryz.ntmps66
    go_wp2
    go_ret
    rw [HP.out]
    exact ⟨by simp, rfl⟩
theorem alloc_at0 (w : World) (o : Obj) : (w.alloc o).heap[w.heap.size]? = some o := heap_alloc_new w o
theorem bld_below {w wr : World} {b : Nat} (h : Below b w wr) {w' : World} (hk : BKeep b wr w') : Below b w w' := h.trans hk.below
theorem closes_cases (t : STok) : ((t.text.toList == [58]) = true ∧ closesB t = true) ∨ ((t.text.toList == [58]) = false ∧ (t.text.toList == [46]) = true ∧ closesB t = true) ∨ ((t.text.toList == [58]) = false ∧ (t.text.toList == [46]) = false ∧ closesB t = false) := by
  have e1 : t.is tColon = (t.text.toList == [58]) := by unfold STok.is; rw [toList_data tColon]; rfl
  have e2 : t.is tDot = (t.text.toList == [46]) := by unfold STok.is; rw [toList_data tDot]; rfl
  unfold closesB
  rw [e1, e2]
  cases (t.text.toList == [58]) <;> cases (t.text.toList == [46]) <;> simp
theorem joinL_one {t : STok} {ts : List STok} {tb : Bool} (hk : ¬ t.kind = 1) : joinL tb (t :: ts) = gapL tb t ++ (plainL t ++ joinL (closesB t) ts) := by
  conv => lhs; unfold joinL
  rw [if_neg hk]
set_option maxRecDepth 100000 in
set_option maxHeartbeats 3200000 in
theorem join_p {w : World} {ts : List STok} {tg cap : Nat} (hT : TokRow w tg 0 ts) (hJ : (joinL true ts).length ≤ 100000000) (hl : ts.length ≤ 1000000) (hc : ts.length ≤ cap) :
    Calls Tryz.prog 42 #[.slice (some ⟨tg, 0, none⟩) ts.length cap] w fun e w' => e = .returned (.string ⟨(joinL true ts).toArray⟩) ∧ Below w.heap.size w w' := by
  have htg := hT.lt
  go_enter Tryz.func42, Tryz.ntmps42
  go_wp2
  go_loopw [4, 10] (fun tv i wr => ∃ (k : Nat) (tb : Bool) (acc : List UInt8), k ≤ ts.length ∧ i = .int .i64 k ∧ tv = .bool tb ∧ BldIs wr w.heap.size acc ∧ Below w.heap.size w wr ∧ acc ++ joinL tb (ts.drop k) = joinL true ts) (fun _ i _ => ts.length - (intOf i).toNat)
  case atStart => exact ⟨0, true, [], Nat.zero_le _, rfl, rfl, Lib.IsBuilderF.of (Lib.fresh_isBuilder _ _ w), (Below.refl _ w).alloc (Nat.le_refl _) _, rfl⟩
  case round =>
    obtain ⟨k, tb, acc, hk, rfl, rfl, hB, hbel, hacc⟩ := hrel
    have hsz : w.heap.size < wr.heap.size := by rcases hB with h | h <;> exact h.lt
    have hstr := Tryz.Builder_String_any_k w.heap.size w.heap.size acc wr hB (by omega)
    by_cases hlt : k < ts.length
    · have hT' : TokRow wr tg 0 ts := hT.of_eq (hbel.block tg htg) (Nat.le_of_lt hsz |> fun _ => hbel.size)
      have c0 := hT'.c0 k hlt; have c1 := hT'.c1 k hlt; have c2 := hT'.c2 k hlt
      rw [Nat.zero_add] at c0 c1 c2
      have hd : ts.drop k = ts[k] :: ts.drop (k + 1) := List.drop_eq_getElem_cons hlt
      rw [hd] at hacc
      generalize ts[k] = t at *
      have hki : (k : Int) < (ts.length : Int) := by omega
      have hk0 : (0 : Int) ≤ (k : Int) := by omega
      have htw : tg < wr.heap.size := hT'.lt
      clear hd hT'
      by_cases h1 : t.kind = 1
      · have HA : Hid (acc = joinL true ts) := by show _ = _; rw [← hacc]; unfold joinL; rw [if_pos h1]; simp
        have h1' : (t.kind : Int) = 1 := by omega
        generalize (t.kind : Int) = kd at *
        subst h1'
        clear hacc h1
        have hB1 := hB.alloc (.cells #[.int .i64 1, .int .i64 t.place, .string t.text] 141)
        have hstr := Tryz.Builder_String_any_k w.heap.size w.heap.size acc _ hB1 (by simp; omega)
        go_wp2_with (go_at_call 67; refine hstr.mono ?_; rintro e w2 ⟨rfl, _, hb2, _⟩)
        go_ret
        rw [← HA.out]
        exact ⟨rfl, (hbel.alloc (by omega) _).trans hb2⟩
      · rw [joinL_one h1] at hacc
        have h1' : ¬ (t.kind : Int) = 1 := by omega
        have hpl := fun w => plain_p t w
        unfold STok.val at hpl
        have hal : acc.length + ((gapL tb t).length + (plainL t).length) ≤ 100000000 := by
          have := congrArg List.length hacc
          simp only [List.length_append] at this
          omega
        have hpz : (⟨(plainL t).toArray⟩ : ByteArray).size = (plainL t).length := by show (List.toArray _).size = _; simp
        have hcl := closes_cases t
        have hB1 := hB.alloc (.cells #[.int .i64 t.kind, .int .i64 t.place, .string t.text] 141)
        clear hstr
        cases tb with
        | false =>
          rcases hcl with ⟨e1, ec⟩ | ⟨e1, e2, ec⟩ | ⟨e1, e2, ec⟩
          · have hg : gapL false t = [] := by unfold gapL; simp [ec]
            rw [hg, List.nil_append, ec] at hacc
            rw [hg] at hal
            simp only [List.length_nil, Nat.zero_add] at hal
            have hws := writeString_p (hB1.alloc (.cells #[.int .i64 t.kind, .int .i64 t.place, .string t.text] 141)) ⟨(plainL t).toArray⟩ (by rw [hpz]; omega)
            go_wp2_with (first | (go_at_call 66; refine (hpl _).mono ?_; rintro e w1 ⟨rfl, rfl⟩) | (go_at_call 65; refine hws.mono ?_; rintro e w2 ⟨rfl, hA, hK⟩))
            go_roundw
            case rel => exact ⟨k + 1, true, acc ++ plainL t, by omega, by go_num, rfl, .inr (by simpa using hA), ((hbel.alloc (by omega) _).alloc (by simp; omega) _).trans hK.below, by rw [← hacc]; simp⟩
            case measure => simp [intOf]; omega
          · have hg : gapL false t = [] := by unfold gapL; simp [ec]
            rw [hg, List.nil_append, ec] at hacc
            rw [hg] at hal
            simp only [List.length_nil, Nat.zero_add] at hal
            have hws := writeString_p (hB1.alloc (.cells #[.int .i64 t.kind, .int .i64 t.place, .string t.text] 141)) ⟨(plainL t).toArray⟩ (by rw [hpz]; omega)
            go_wp2_with (first | (go_at_call 66; refine (hpl _).mono ?_; rintro e w1 ⟨rfl, rfl⟩) | (go_at_call 65; refine hws.mono ?_; rintro e w2 ⟨rfl, hA, hK⟩))
            go_roundw
            case rel => exact ⟨k + 1, true, acc ++ plainL t, by omega, by go_num, rfl, .inr (by simpa using hA), ((hbel.alloc (by omega) _).alloc (by simp; omega) _).trans hK.below, by rw [← hacc]; simp⟩
            case measure => simp [intOf]; omega
          · have hg : gapL false t = [32] := by unfold gapL; simp [ec]
            rw [hg, ec] at hacc
            rw [hg] at hal
            simp only [List.length_cons, List.length_nil, Nat.zero_add] at hal
            have hwb := writeByte_p hB1 (by omega)
            go_wp2_with (go_at_call 64; refine hwb.mono ?_)
            rintro e w1 ⟨rfl, hA1, hK1⟩
            have hblk : w1.heap[wr.heap.size]? = some (.cells #[.int .i64 t.kind, .int .i64 t.place, .string t.text] 141) := hK1.others _ _ (alloc_at0 wr _) (by simp; omega) (fun c fz h => by injection h with _ h _; exact absurd h (by decide))
            have q0 : w1.cell? ⟨wr.heap.size, 0, none⟩ = some (.int .i64 t.kind) := by rw [Lib.cell_of_heap hblk]; rfl
            have q1 : w1.cell? ⟨wr.heap.size, 1, none⟩ = some (.int .i64 t.place) := by rw [Lib.cell_of_heap hblk]; rfl
            have q2 : w1.cell? ⟨wr.heap.size, 2, none⟩ = some (.string t.text) := by rw [Lib.cell_of_heap hblk]; rfl
            have hsz1 := hK1.below.size
            simp at hsz1
            have hb1 : Below w.heap.size w w1 := (hbel.alloc (by omega) _).trans hK1.below
            have hws := writeString_p (l := acc ++ [32]) (Lib.IsBuilderF.alloc (.inr hA1) (.cells #[.int .i64 t.kind, .int .i64 t.place, .string t.text] 141)) ⟨(plainL t).toArray⟩ (by rw [hpz]; simp; omega)
            generalize wr.heap.size = N at *
            go_wp2_with (first | (go_at_call 66; refine (hpl _).mono ?_; rintro e w2 ⟨rfl, rfl⟩) | (go_at_call 65; refine hws.mono ?_; rintro e w3 ⟨rfl, hA, hK⟩))
            go_roundw
            case rel => exact ⟨k + 1, false, acc ++ [32] ++ plainL t, by omega, by go_num, rfl, .inr (by simpa using hA), (hb1.alloc (by omega) _).trans hK.below, by rw [← hacc]; simp⟩
            case measure => simp [intOf]; omega
        | true =>
          rcases hcl with ⟨e1, ec⟩ | ⟨e1, e2, ec⟩ | ⟨e1, e2, ec⟩
          · have hg : gapL true t = [] := by unfold gapL; simp [ec]
            rw [hg, List.nil_append, ec] at hacc
            rw [hg] at hal
            simp only [List.length_nil, Nat.zero_add] at hal
            have hws := writeString_p (hB1.alloc (.cells #[.int .i64 t.kind, .int .i64 t.place, .string t.text] 141)) ⟨(plainL t).toArray⟩ (by rw [hpz]; omega)
            go_wp2_with (first | (go_at_call 66; refine (hpl _).mono ?_; rintro e w1 ⟨rfl, rfl⟩) | (go_at_call 65; refine hws.mono ?_; rintro e w2 ⟨rfl, hA, hK⟩))
            go_roundw
            case rel => exact ⟨k + 1, true, acc ++ plainL t, by omega, by go_num, rfl, .inr (by simpa using hA), ((hbel.alloc (by omega) _).alloc (by simp; omega) _).trans hK.below, by rw [← hacc]; simp⟩
            case measure => simp [intOf]; omega
          · have hg : gapL true t = [] := by unfold gapL; simp [ec]
            rw [hg, List.nil_append, ec] at hacc
            rw [hg] at hal
            simp only [List.length_nil, Nat.zero_add] at hal
            have hws := writeString_p (hB1.alloc (.cells #[.int .i64 t.kind, .int .i64 t.place, .string t.text] 141)) ⟨(plainL t).toArray⟩ (by rw [hpz]; omega)
            go_wp2_with (first | (go_at_call 66; refine (hpl _).mono ?_; rintro e w1 ⟨rfl, rfl⟩) | (go_at_call 65; refine hws.mono ?_; rintro e w2 ⟨rfl, hA, hK⟩))
            go_roundw
            case rel => exact ⟨k + 1, true, acc ++ plainL t, by omega, by go_num, rfl, .inr (by simpa using hA), ((hbel.alloc (by omega) _).alloc (by simp; omega) _).trans hK.below, by rw [← hacc]; simp⟩
            case measure => simp [intOf]; omega
          · have hg : gapL true t = [] := by unfold gapL; simp [ec]
            rw [hg, List.nil_append, ec] at hacc
            rw [hg] at hal
            simp only [List.length_nil, Nat.zero_add] at hal
            have hws := writeString_p (hB1.alloc (.cells #[.int .i64 t.kind, .int .i64 t.place, .string t.text] 141)) ⟨(plainL t).toArray⟩ (by rw [hpz]; omega)
            go_wp2_with (first | (go_at_call 66; refine (hpl _).mono ?_; rintro e w1 ⟨rfl, rfl⟩) | (go_at_call 65; refine hws.mono ?_; rintro e w2 ⟨rfl, hA, hK⟩))
            go_roundw
            case rel => exact ⟨k + 1, false, acc ++ plainL t, by omega, by go_num, rfl, .inr (by simpa using hA), ((hbel.alloc (by omega) _).alloc (by simp; omega) _).trans hK.below, by rw [← hacc]; simp⟩
            case measure => simp [intOf]; omega
    · have e : k = ts.length := by omega
      subst e
      have HA : Hid (acc = joinL true ts) := by show _ = _; rw [← hacc, List.drop_length]; unfold joinL; simp
      clear hacc
      go_wp2_with (go_at_call 67; refine hstr.mono ?_; rintro e w2 ⟨rfl, _, hb2, _⟩)
      go_ret
      rw [← HA.out]
      exact ⟨rfl, hbel.trans hb2⟩
end Go.Proofs.YtddbjcfdmdbmkaaGreatDoor
