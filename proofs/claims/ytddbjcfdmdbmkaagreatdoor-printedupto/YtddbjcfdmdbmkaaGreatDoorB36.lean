import Derived.Test.YtddbjcfdmdbmkaaGreatDoorB35
import Derived.Test.YtddbjcfdmdbmkaaGreatDoorB19
set_option linter.unusedVariables false
set_option linter.unusedSimpArgs false
namespace Go.Proofs.YtddbjcfdmdbmkaaGreatDoor
open Go.RowKit

def STok.val (t : STok) : Value := .agg #[.int .i64 t.kind, .int .i64 t.place, .string t.text]
theorem list_empty {l : List UInt8} : (l.isEmpty = true ∧ l = []) ∨ (l.isEmpty = false ∧ l ≠ []) := by cases l <;> simp
set_option maxRecDepth 100000 in
set_option maxHeartbeats 800000 in
theorem plain_p (t : STok) (w : World) : Calls Tryz.prog 66 #[t.val] w fun e w' => e = .returned (.string ⟨(plainL t).toArray⟩) ∧ w' = w.alloc (.cells #[.int .i64 t.kind, .int .i64 t.place, .string t.text] 141) := by
  unfold STok.val
  by_cases hk : t.kind = 2
  · have hT := fun w => Tryz.TrimLeft_one t.text 48 (by decide) w
    have HP : Hid (plainL t = if (t.text.data.toList.dropWhile (· == 48)).isEmpty then [48] else t.text.data.toList.dropWhile (· == 48)) := by show _ = _; unfold plainL trimL; rw [if_pos hk]
    unfold Lib.trimLeftB at hT
    generalize t.text.data.toList.dropWhile (· == 48) = d at *
    have hk' : (t.kind : Int) = 2 := by omega
    generalize (t.kind : Int) = kd at *
    subst hk'
    clear hk
    rcases list_empty (l := d) with ⟨he, rfl⟩ | ⟨he, hne⟩
    · go_enter Tryz.func66, Tryz.ntmps66
      go_wp2_with (go_at_call 101; refine (hT _).mono ?_; rintro e w1 ⟨rfl, rfl⟩)
      go_ret
      rw [HP.out]
      exact ⟨rfl, rfl⟩
    · have hb : (ByteArray.toList ⟨d.toArray⟩).isEmpty = false := by rw [toList_data]; simpa using he
      go_enter Tryz.func66, Tryz.ntmps66
      go_wp2_with (go_at_call 101; refine (hT _).mono ?_; rintro e w1 ⟨rfl, rfl⟩)
      go_ret
      rw [HP.out, if_neg (by rw [he]; decide)]
      exact ⟨rfl, rfl⟩
  · have HP : Hid (plainL t = t.text.data.toList) := by show _ = _; unfold plainL; rw [if_neg hk]
    have hk' : ¬ (t.kind : Int) = 2 := by omega
    clear hk
    go_enter Tryz.func66, Tryz.ntmps66
    go_wp2
    go_ret
    rw [HP.out]
    exact ⟨by simp, rfl⟩
theorem alloc_at0 (w : World) (o : Obj) : (w.alloc o).heap[w.heap.size]? = some o := heap_alloc_new w o
theorem bld_below {w wr : World} {b : Nat} (h : Below b w wr) {w' : World} (hk : BKeep b wr w') : Below b w w' := h.trans hk.below
theorem closes_cases (t : STok) : ((t.text.toList == [58]) = true ∧ closesB t = true) ∨ ((t.text.toList == [58]) = false ∧ (t.text.toList == [46]) = true ∧ closesB t = true) ∨ ((t.text.toList == [58]) = false ∧ (t.text.toList == [46]) = false ∧ closesB t = false) := by
  have e1 : t.is tColon = (t.text.toList == [58]) := by unfold STok.is; rw [toList_data tColon]; rfl
  have e2 : t.is tDot = (t.text.toList == [46]) := by unfold STok.is; rw [toList_data tDot]; rfl
  unfold closesB
  rw [e1, e2]
  cases (t.text.toList == [58]) <;> cases (t.text.toList == [46]) <;> simp
theorem joinL_one {t : STok} {ts : List STok} {tb : Bool} (hk : ¬ t.kind = 1) : joinL tb (t :: ts) = gapL tb t ++ (plainL t ++ joinL (closesB t) ts) := by
  conv => lhs; unfold joinL
  rw [if_neg hk]
set_option maxRecDepth 100000 in
set_option maxHeartbeats 3200000 in
theorem join_p {w : World} {ts : List STok} {tg cap : Nat} (hT : TokRow w tg 0 ts) (hJ : (joinL true ts).length ≤ 100000000) (hl : ts.length ≤ 1000000) (hc : ts.length ≤ cap) :
    Calls Tryz.prog 42 #[.slice (some ⟨tg, 0, none⟩) ts.length cap] w fun e w' => e = .returned (.string ⟨(joinL true ts).toArray⟩) ∧ Below w.heap.size w w' := by
  have htg := hT.lt
  go_enter Tryz.func42, Tryz.ntmps42
  go_wp2
  go_loopw [4, 10] (fun tv i wr => ∃ (k : Nat) (tb : Bool) (acc : List UInt8), k ≤ ts.length ∧ i = .int .i64 k ∧ tv = .bool tb ∧ BldIs wr w.heap.size acc ∧ Below w.heap.size w wr ∧ acc ++ joinL tb (ts.drop k) = joinL true ts) (fun _ i _ => ts.length - (intOf i).toNat)
  case atStart => exact ⟨0, true, [], Nat.zero_le _, rfl, rfl, Lib.IsBuilderF.of (Lib.fresh_isBuilder _ _ w), (Below.refl _ w).alloc (Nat.le_refl _) _, rfl⟩
  case round =>
    obtain ⟨k, tb, acc, hk, rfl, rfl, hB, hbel, hacc⟩ := hrel
    have hsz : w.heap.size < wr.heap.size := by rcases hB with h | h <;> exact h.lt
    have hstr := Tryz.Builder_String_any_k w.heap.size w.heap.size acc wr hB (by omega)
    by_cases hlt : k < ts.length
    · have hT' : TokRow wr tg 0 ts := hT.of_eq (hbel.block tg htg) (Nat.le_of_lt hsz |> fun _ => hbel.size)
      have c0 := hT'.c0 k hlt; have c1 := hT'.c1 k hlt; have c2 := hT'.c2 k hlt
      rw [Nat.zero_add] at c0 c1 c2
      have hd : ts.drop k = ts[k] :: ts.drop (k + 1) := List.drop_eq_getElem_cons hlt
      rw [hd] at hacc
      generalize ts[k] = t at *
      have hki : (k : Int) < (ts.length : Int) := by omega
      have hk0 : (0 : Int) ≤ (k : Int) := by omega
      have htw : tg < wr.heap.size := hT'.lt
      clear hd hT'
      by_cases h1 : t.kind = 1
      · have HA : Hid (acc = joinL true ts) := by show _ = _; rw [← hacc]; unfold joinL; rw [if_pos h1]; simp
        have h1' : (t.kind : Int) = 1 := by omega
        generalize (t.kind : Int) = kd at *
        subst h1'
        clear hacc h1
        have hB1 := hB.alloc (.cells #[.int .i64 1, .int .i64 t.place, .string t.text] 141)
        have hstr := Tryz.Builder_String_any_k w.heap.size w.heap.size acc _ hB1 (by simp; omega)
        go_wp2_with (go_at_call 67; refine hstr.mono ?_; rintro e w2 ⟨rfl, _, hb2, _⟩)
        go_ret
        rw [← HA.out]
        exact ⟨rfl, (hbel.alloc (by omega) _).trans hb2⟩
      · rw [joinL_one h1] at hacc
        have h1' : ¬ (t.kind : Int) = 1 := by omega
        have hpl := fun w => plain_p t w
        unfold STok.val at hpl
        have hal : acc.length + ((gapL tb t).length + (plainL t).length) ≤ 100000000 := by
          have := congrArg List.length hacc
          simp only [List.length_append] at this
          omega
        have hpz : (⟨(plainL t).toArray⟩ : ByteArray).size = (plainL t).length := by show (List.toArray _).size = _; simp
        have hcl := closes_cases t
        have hB1 := hB.alloc (.cells #[.int .i64 t.kind, .int .i64 t.place, .string t.text] 141)
        clear hstr
        cases tb with
        | false =>
          rcases hcl with ⟨e1, ec⟩ | ⟨e1, e2, ec⟩ | ⟨e1, e2, ec⟩
          · have hg : gapL false t = [] := by unfold gapL; simp [ec]
            rw [hg, List.nil_append, ec] at hacc
            rw [hg] at hal
            simp only [List.length_nil, Nat.zero_add] at hal
            have hws := writeString_p (hB1.alloc (.cells #[.int .i64 t.kind, .int .i64 t.place, .string t.text] 141)) ⟨(plainL t).toArray⟩ (by rw [hpz]; omega)
            go_wp2_with (first | (go_at_call 66; refine (hpl _).mono ?_; rintro e w1 ⟨rfl, rfl⟩) | (go_at_call 65; refine hws.mono ?_; rintro e w2 ⟨rfl, hA, hK⟩))
            go_roundw
            case rel => exact ⟨k + 1, true, acc ++ plainL t, by omega, by go_num, rfl, .inr (by simpa using hA), ((hbel.alloc (by omega) _).alloc (by simp; omega) _).trans hK.below, by rw [← hacc]; simp⟩
            case measure => simp [intOf]; omega
          · have hg : gapL false t = [] := by unfold gapL; simp [ec]
            rw [hg, List.nil_append, ec] at hacc
            rw [hg] at hal
            simp only [List.length_nil, Nat.zero_add] at hal
            have hws := writeString_p (hB1.alloc (.cells #[.int .i64 t.kind, .int .i64 t.place, .string t.text] 141)) ⟨(plainL t).toArray⟩ (by rw [hpz]; omega)
            go_wp2_with (first | (go_at_call 66; refine (hpl _).mono ?_; rintro e w1 ⟨rfl, rfl⟩) | (go_at_call 65; refine hws.mono ?_; rintro e w2 ⟨rfl, hA, hK⟩))
            go_roundw
            case rel => exact ⟨k + 1, true, acc ++ plainL t, by omega, by go_num, rfl, .inr (by simpa using hA), ((hbel.alloc (by omega) _).alloc (by simp; omega) _).trans hK.below, by rw [← hacc]; simp⟩
            case measure => simp [intOf]; omega
          · have hg : gapL false t = [32] := by unfold gapL; simp [ec]
            rw [hg, ec] at hacc
            rw [hg] at hal
            simp only [List.length_cons, List.length_nil, Nat.zero_add] at hal
            have hwb := writeByte_p hB1 (by omega)
            go_wp2_with (go_at_call 64; refine hwb.mono ?_)
            rintro e w1 ⟨rfl, hA1, hK1⟩
            have hblk : w1.heap[wr.heap.size]? = some (.cells #[.int .i64 t.kind, .int .i64 t.place, .string t.text] 141) := hK1.others _ _ (alloc_at0 wr _) (by simp; omega) (fun c fz h => by injection h with _ h _; exact absurd h (by decide))
            have q0 : w1.cell? ⟨wr.heap.size, 0, none⟩ = some (.int .i64 t.kind) := by rw [Lib.cell_of_heap hblk]; rfl
            have q1 : w1.cell? ⟨wr.heap.size, 1, none⟩ = some (.int .i64 t.place) := by rw [Lib.cell_of_heap hblk]; rfl
            have q2 : w1.cell? ⟨wr.heap.size, 2, none⟩ = some (.string t.text) := by rw [Lib.cell_of_heap hblk]; rfl
            have hsz1 := hK1.below.size
            simp at hsz1
            have hb1 : Below w.heap.size w w1 := (hbel.alloc (by omega) _).trans hK1.below
            have hws := writeString_p (l := acc ++ [32]) (Lib.IsBuilderF.alloc (.inr hA1) (.cells #[.int .i64 t.kind, .int .i64 t.place, .string t.text] 141)) ⟨(plainL t).toArray⟩ (by rw [hpz]; simp; omega)
            generalize wr.heap.size = N at *
            go_wp2_with (first | (go_at_call 66; refine (hpl _).mono ?_; rintro e w2 ⟨rfl, rfl⟩) | (go_at_call 65; refine hws.mono ?_; rintro e w3 ⟨rfl, hA, hK⟩))
            go_roundw
            case rel => exact ⟨k + 1, false, acc ++ [32] ++ plainL t, by omega, by go_num, rfl, .inr (by simpa using hA), (hb1.alloc (by omega) _).trans hK.below, by rw [← hacc]; simp⟩
            case measure => simp [intOf]; omega
        | true =>
          rcases hcl with ⟨e1, ec⟩ | ⟨e1, e2, ec⟩ | ⟨e1, e2, ec⟩
          · have hg : gapL true t = [] := by unfold gapL; simp [ec]
            rw [hg, List.nil_append, ec] at hacc
            rw [hg] at hal
            simp only [List.length_nil, Nat.zero_add] at hal
            have hws := writeString_p (hB1.alloc (.cells #[.int .i64 t.kind, .int .i64 t.place, .string t.text] 141)) ⟨(plainL t).toArray⟩ (by rw [hpz]; omega)
            go_wp2_with (first | (go_at_call 66; refine (hpl _).mono ?_; rintro e w1 ⟨rfl, rfl⟩) | (go_at_call 65; refine hws.mono ?_; rintro e w2 ⟨rfl, hA, hK⟩))
            go_roundw
            case rel => exact ⟨k + 1, true, acc ++ plainL t, by omega, by go_num, rfl, .inr (by simpa using hA), ((hbel.alloc (by omega) _).alloc (by simp; omega) _).trans hK.below, by rw [← hacc]; simp⟩
            case measure => simp [intOf]; omega
          · have hg : gapL true t = [] := by unfold gapL; simp [ec]
            rw [hg, List.nil_append, ec] at hacc
            rw [hg] at hal
            simp only [List.length_nil, Nat.zero_add] at hal
            have hws := writeString_p (hB1.alloc (.cells #[.int .i64 t.kind, .int .i64 t.place, .string t.text] 141)) ⟨(plainL t).toArray⟩ (by rw [hpz]; omega)
            go_wp2_with (first | (go_at_call 66; refine (hpl _).mono ?_; rintro e w1 ⟨rfl, rfl⟩) | (go_at_call 65; refine hws.mono ?_; rintro e w2 ⟨rfl, hA, hK⟩))
            go_roundw
            case rel => exact ⟨k + 1, true, acc ++ plainL t, by omega, by go_num, rfl, .inr (by simpa using hA), ((hbel.alloc (by omega) _).alloc (by simp; omega) _).trans hK.below, by rw [← hacc]; simp⟩
            case measure => simp [intOf]; omega
          · have hg : gapL true t = [] := by unfold gapL; simp [ec]
            rw [hg, List.nil_append, ec] at hacc
            rw [hg] at hal
            simp only [List.length_nil, Nat.zero_add] at hal
            have hws := writeString_p (hB1.alloc (.cells #[.int .i64 t.kind, .int .i64 t.place, .string t.text] 141)) ⟨(plainL t).toArray⟩ (by rw [hpz]; omega)
            go_wp2_with (first | (go_at_call 66; refine (hpl _).mono ?_; rintro e w1 ⟨rfl, rfl⟩) | (go_at_call 65; refine hws.mono ?_; rintro e w2 ⟨rfl, hA, hK⟩))
            go_roundw
            case rel => exact ⟨k + 1, false, acc ++ plainL t, by omega, by go_num, rfl, .inr (by simpa using hA), ((hbel.alloc (by omega) _).alloc (by simp; omega) _).trans hK.below, by rw [← hacc]; simp⟩
            case measure => simp [intOf]; omega
    · have e : k = ts.length := by omega
      subst e
      have HA : Hid (acc = joinL true ts) := by show _ = _; rw [← hacc, List.drop_length]; unfold joinL; simp
      clear hacc
      go_wp2_with (go_at_call 67; refine hstr.mono ?_; rintro e w2 ⟨rfl, _, hb2, _⟩)
      go_ret
      rw [← HA.out]
      exact ⟨rfl, hbel.trans hb2⟩
end Go.Proofs.YtddbjcfdmdbmkaaGreatDoor

namespace Go.Proofs.YtddbjcfdmdbmkaaGreatDoor
open Go.RowKit

theorem trim_len (w : List UInt8) : (trimL w).length ≤ w.length + 1 := by
  rcases trim_eq w with ⟨h, _⟩ | ⟨b, l, h, _, z, h3, _⟩
  · rw [h]; simp
  · rw [h]
    have := congrArg List.length h3
    rw [List.length_append] at this
    omega
theorem plain_len (t : STok) : (plainL t).length ≤ t.text.size + 1 := by
  have hs : t.text.data.toList.length = t.text.size := by simp
  unfold plainL
  split
  · have := trim_len t.text.data.toList; omega
  · omega
theorem join_len {N : Nat} : ∀ (ts : List STok) (tb : Bool), (∀ t ∈ ts, t.text.size ≤ N) → (joinL tb ts).length ≤ ts.length * (N + 2) := by
  intro ts
  induction ts with
  | nil => intro tb _; unfold joinL; simp
  | cons t ts ih =>
    intro tb h
    unfold joinL
    split
    · simp
    · have h1 := plain_len t
      have h2 := h t (by simp)
      have h3 := ih (closesB t) (fun u hu => h u (by simp [hu]))
      have h4 : (gapL tb t).length ≤ 1 := by unfold gapL; split <;> simp
      simp only [List.length_append, List.length_cons, Nat.add_mul]
      omega
theorem stoks_size (s : ByteArray) : ∀ n at_, at_ ≤ s.size → ∀ t ∈ stoks s n at_, t.text.size ≤ s.size := by
  intro n
  induction n with
  | zero => intro at_ _ t ht; simp [stoks] at ht
  | succ n ih =>
    intro at_ h t ht
    obtain ⟨p1, p2, _⟩ := stokAt_spec s at_ h
    unfold stoks at ht
    split at ht
    · rw [List.mem_singleton.1 ht]; exact Nat.le_trans (Nat.le_add_left _ _) p2
    · rcases List.mem_cons.1 ht with rfl | ht
      · exact Nat.le_trans (Nat.le_add_left _ _) p2
      · exact ih _ p2 t ht
theorem toks_bounds {s : ByteArray} {ts : List STok} {n : Nat} (hn : n = s.size + 1) (e : stoks s n 0 = ts) (hs : s.size ≤ 600) : (joinL true ts).length ≤ 1000000 ∧ ts.length ≤ 601 := by
  have h1 := stoks_size s n 0 (Nat.zero_le _)
  have h2 := (stoks_good s n 0 (Nat.zero_le _) (by omega)).2
  rw [e] at h1 h2
  have h3 := join_len ts true (fun t ht => Nat.le_trans (h1 t ht) hs)
  have h4 : ts.length * (600 + 2) ≤ 601 * 602 := Nat.mul_le_mul (by omega) (by omega)
  exact ⟨by omega, by omega⟩
def prtP (s : ByteArray) : ByteArray × Nat × Nat := match herP s with
  | .inr (p, e) => (⟨#[]⟩, p, e)
  | .inl _ => (joinP (tokensP s), 0, 0)
theorem prt_err {s : ByteArray} {p e : Nat} (h : herP s = .inr (p, e)) : prtP s = (⟨#[]⟩, p, e) := by unfold prtP; rw [h]
theorem prt_ok {s : ByteArray} {x : PPat × Nat × List (List PPart)} {ts : List STok} (et : tokensP s = ts) (h : herP s = .inl x) : prtP s = (joinP ts, 0, 0) := by unfold prtP; rw [h, et]

set_option maxRecDepth 100000 in
set_option maxHeartbeats 1600000 in
theorem printK_p {s : ByteArray} {pat : PPat} {bd : Nat} {ps : List (List PPart)} (hr : herP s = .inl (pat, bd, ps)) (w : World) :
    Calls Tryz.prog 18 #[.string s] w fun e w' => e = .returned (.tuple #[.string (prtP s).1, .int .i64 (prtP s).2.1, .int .i64 (prtP s).2.2]) ∧ Below w.heap.size w w' := by
  have hread := read_h s w
  obtain ⟨ts, et⟩ : ∃ ts, tokensP s = ts := ⟨_, rfl⟩
  have hs : s.size ≤ 600 := by
    by_cases hs : 600 < s.size
    · unfold herP at hr; rw [if_pos hs] at hr; cases hr
    · omega
  have hpos : 0 < ts.length := by
    obtain ⟨l, hl⟩ := stoks_cons s s.size 0
    have e2 : ts = stokAt s 0 :: l := by rw [← et]; exact hl
    rw [e2]; simp
  obtain ⟨hJ, hl⟩ := toks_bounds rfl et hs
  have HR : Hid (herP s = .inl (pat, bd, ps)) := hr
  rw [prt_ok et hr]
  clear hr hs
  go_enter Tryz.func18, Tryz.ntmps18
  go_wp2_with fail
  refine hread.mono ?_
  rintro e w1 ⟨v, rfl, hbel, hpost⟩
  rw [HR.out] at hpost
  obtain ⟨tv, sv, rfl, hP, hrow⟩ := hpost
  obtain ⟨pa, pn, pc, epv⟩ : ∃ a n c, sv = .slice a n c := by obtain ⟨vs, _, h, _⟩ := hP; exact row_form h
  subst epv
  clear hP
  rw [et] at hrow
  obtain ⟨tg, cap, rfl⟩ : ∃ tg cap, tv = .slice (some ⟨tg, 0, none⟩) ts.length cap := by
    rcases hrow.2 with ⟨_, h0⟩ | ⟨g, cap, cur, h, _⟩
    · omega
    · exact ⟨g, cap, h⟩
  obtain ⟨hT, _, hc⟩ := tokRow_of hrow
  have hbp := hbel.alloc hbel.size (.cells #[.int .i64 pat.window, .int .i64 pat.rate, .int .i64 bd, .slice pa pn pc] 67)
  have hT2 : TokRow (w1.alloc (.cells #[.int .i64 pat.window, .int .i64 pat.rate, .int .i64 bd, .slice pa pn pc] 67)) tg 0 ts := hT.of_eq (Lib.alloc_old w1 _ tg hT.lt) (by simp)
  have hjoin := join_p hT2 (by omega) (by omega) hc
  clear hrow hread
  go_wp2_with (go_at_call 42; refine hjoin.mono ?_; rintro e w2 ⟨rfl, hb2⟩)
  exact bodyPost_ret (v := .tuple #[.string (joinP ts), .int .i64 0, .int .i64 0]) (by simp [results, Tryz.results18, go_sem, joinP]) rfl ⟨rfl, hbp.trans (hb2.mono hbp.size)⟩
end Go.Proofs.YtddbjcfdmdbmkaaGreatDoor
