import Derived.Test.YtddbjcfdmdbmkaaGreatDoorP01
import Derived.Test.YtddbjcfdmdbmkaaGreatDoorP08
import Derived.Test.YtddbjcfdmdbmkaaGreatDoorP07
set_option linter.unusedVariables false
set_option linter.unusedSimpArgs false
/-
  The document's Print.
-/
namespace Go.Proofs.YtddbjcfdmdbmkaaGreatDoor
open Go.RowKit

theorem fold_small : ∀ (l : List UInt8) (a : Nat), l.foldl (fun n c => 10 * n + (c.toNat - 48)) a + 23 ≤ (a + 23) * 10 ^ l.length := by
  intro l
  induction l with
  | nil => intro a; simp
  | cons c l ih =>
    intro a
    rw [List.foldl_cons]
    refine Nat.le_trans (ih _) ?_
    have hc : c.toNat < 256 := c.toNat_lt
    rw [List.length_cons, Nat.pow_succ, Nat.mul_comm (10 ^ l.length) 10, ← Nat.mul_assoc]
    exact Nat.mul_le_mul_right _ (by omega)
theorem nval_small (l : List UInt8) : nval l ≤ 100000000000 := by
  unfold nval
  have h := fold_small (l.take 9) 0
  have h2 : 10 ^ (l.take 9).length ≤ 10 ^ 9 := Nat.pow_le_pow_right (by decide) (by rw [List.length_take]; omega)
  have h3 : (0 + 23) * 10 ^ (l.take 9).length ≤ 23 * 10 ^ 9 := Nat.mul_le_mul_left _ h2
  omega
theorem lex_n {s : ByteArray} {at_ : Nat} {t : RTok} {k : Option Nat} (h : lexStep s at_ = (t, k)) : t.n ≤ 100000000000 := by
  unfold lexStep at h
  simp only at h
  generalize spanTo isBlankB s at_ = i at *
  repeat' split at h
  all_goals (injection h with h1 h2; rw [← h1])
  all_goals first
    | exact Nat.zero_le _
    | exact nval_small _
theorem lx_n {s : ByteArray} {at_ : Nat} {l : List RTok} (h : LX s at_ l) : ∀ t ∈ l, t.n ≤ 100000000000 := by
  induction h with
  | last h => intro t ht; rw [List.mem_singleton.1 ht]; exact lex_n h
  | more h _ ih =>
    intro t ht
    rcases List.mem_cons.1 ht with rfl | ht
    · exact lex_n h
    · exact ih t ht
theorem tok_cells {own : Nat → Nat} {w : World} {b : Nat} {m : PM} {τ : PSt} (h : St own w b m τ) (k : Nat) (hk : k < τ.toks.length) :
    w.cell? ⟨m.tg, k * 4, none⟩ = some (.int .i64 τ.toks[k].kind) ∧ w.cell? ⟨m.tg, k * 4 + 1, none⟩ = some (.string τ.toks[k].s) ∧ w.cell? ⟨m.tg, k * 4 + 2, none⟩ = some (.int .i64 τ.toks[k].pos) ∧ w.cell? ⟨m.tg, k * 4 + 3, none⟩ = some (.int .i64 τ.toks[k].n) := by
  have key : ∀ i, i < 4 → ∀ u, (RTok.cells τ.toks[k])[i]? = some u → w.cell? ⟨m.tg, k * 4 + i, none⟩ = some u := by
    intro i hi u hu
    have := h.toks.cells (g := m.tg) rfl (k * 4 + i) u (by rw [flat_get RTok.cells 4 (fun _ => rfl) _ _ _ hk hi]; exact hu)
    have hadd : (⟨m.tg, 0, none⟩ : Addr).add (k * 4 + i) = ⟨m.tg, k * 4 + i, none⟩ := by unfold Addr.add; split <;> simp_all
    rw [hadd] at this; exact this
  exact ⟨key 0 (by decide) _ rfl, key 1 (by decide) _ rfl, key 2 (by decide) _ rfl, key 3 (by decide) _ rfl⟩
/-- a colon or a dot -/
def closesV (v : ByteArray) : Bool := (v.toList == [58]) || (v.toList == [46])
theorem closesV_cases (v : ByteArray) : ((v.toList == [58]) = true ∧ closesV v = true) ∨ ((v.toList == [58]) = false ∧ (v.toList == [46]) = true ∧ closesV v = true) ∨ ((v.toList == [58]) = false ∧ (v.toList == [46]) = false ∧ closesV v = false) := by
  unfold closesV
  cases (v.toList == [58]) <;> cases (v.toList == [46]) <;> simp
theorem closesV_word {v : ByteArray} {t : RTok} (h : v.data.toList = wordD t) : closesD t = closesV v := by unfold closesD closesV; rw [toList_data, h]
theorem docJ_one {l : List RTok} {k : Nat} (h : k + 1 < l.length) (tb : Bool) : docJ tb (l.drop k) = (if tb || closesD l[k] then [] else [32]) ++ (wordD l[k] ++ docJ (closesD l[k]) (l.drop (k + 1))) := by
  rw [List.drop_eq_getElem_cons (show k < l.length by omega), List.drop_eq_getElem_cons h]
  rfl
theorem docJ_end {l : List RTok} {k : Nat} (h : ¬ k + 1 < l.length) (tb : Bool) : docJ tb (l.drop k) = [] := by
  have hl : (l.drop k).length ≤ 1 := by rw [List.length_drop]; omega
  match h2 : l.drop k with
  | [] => rfl
  | [_] => rfl
  | _ :: _ :: _ => rw [h2] at hl; simp at hl
theorem colon_closes : closesV ⟨#[58]⟩ = true := by unfold closesV; rw [toList_data]; rfl
set_option maxRecDepth 100000 in
set_option maxHeartbeats 6400000 in
theorem docprint_ok {OUT : List UInt8} {s : ByteArray} {pat : PPat} {bd : Nat} {ps : List (List PPart)} (hC : ∀ w, Calls Tryz.prog 39 #[.string s] w fun e w' => ∃ v, e = .returned v ∧ DocEng s w pat bd ps v w') (hj : ∀ l : List RTok, LX s 0 l → (∀ ts, tokensP s = ts → TR ts l) → docJ true l = OUT ∧ OUT.length ≤ 1000000 ∧ l.length ≤ 601) (w : World) :
    Calls Tryz.prog 43 #[.string s] w fun e w' => e = .returned (.tuple #[.string ⟨OUT.toArray⟩, .int .i64 0, .int .i64 0]) ∧ Below w.heap.size w w' := by
  have hCw := hC w
  go_enter Tryz.func43, Tryz.ntmps43
  go_wp2_with fail
  refine hCw.mono ?_
  rintro e w1 ⟨v, rfl, hbel, X, b, pa, pc, own, m, lo, τ, q, rfl, hX0, hX, hSt, _, _, hTold⟩
  obtain ⟨hout, hol, hll⟩ := hj τ.toks hTold.lx hTold.tr
  have hnn := lx_n hTold.lx
  have hXl := hX.lt
  have hbl := hSt.blk.lt
  have htl := (hSt.toks.lt m.tg rfl).2
  have hcl := colon_closes
  clear hC hj hCw hTold
  go_wp2_with fail
  go_loopw [8, 9, 10] (fun o a i wr => ∃ (k : Nat) (av : ByteArray) (acc : List UInt8), k < τ.toks.length + 1 ∧ i = .int .i64 k ∧ a = .string av ∧ o = .string ⟨acc.toArray⟩ ∧ acc ++ docJ (closesV av) (τ.toks.drop k) = OUT ∧ Below w1.heap.size w1 wr) (fun _ _ i _ => τ.toks.length - (intOf i).toNat)
  case atStart => exact ⟨0, _, [], by omega, rfl, rfl, rfl, by rw [hcl]; exact hout, Below.refl _ _⟩
  case round =>
    obtain ⟨k, av, acc, hk, rfl, rfl, rfl, hacc, hb2⟩ := hrel
    clear hout hcl
    have hX2 := hX.of_eq (hb2.block X hXl)
    have hP2 := hSt.blk.of_eq (hb2.block b hbl)
    have x0 := hX2.cell 0
    have y0 := hP2.cell 0
    have hXl2 := hX2.lt
    have hbl2 := hP2.lt
    simp [EngC] at x0
    simp [PCells] at y0
    by_cases hlt : k + 1 < τ.toks.length
    · obtain ⟨d0, d1, d2, d3⟩ := tok_cells hSt k (by omega)
      have e0 := (hb2.cell (p := ⟨m.tg, k * 4, none⟩) htl).trans d0
      have e1 := (hb2.cell (p := ⟨m.tg, k * 4 + 1, none⟩) htl).trans d1
      have e2 := (hb2.cell (p := ⟨m.tg, k * 4 + 2, none⟩) htl).trans d2
      have e3 := (hb2.cell (p := ⟨m.tg, k * 4 + 3, none⟩) htl).trans d3
      have htl2 : m.tg < wr.heap.size := Nat.lt_of_lt_of_le htl hb2.size
      rw [docJ_one hlt] at hacc
      have hn := hnn τ.toks[k] (List.getElem_mem _)
      generalize τ.toks[k] = t at *
      have hki : (k : Int) + 1 < (τ.toks.length : Int) := by omega
      have hki2 : (k : Int) < (τ.toks.length : Int) := by omega
      have hk0 : (0 : Int) ≤ (k : Int) := by omega
      have hal : acc.length + 1 + (wordD t).length ≤ 2000000 := by
        have := congrArg List.length hacc
        simp only [List.length_append] at this
        omega
      clear d0 d1 d2 d3 hnn hX hSt
      have hbB : ∀ o, Below w1.heap.size w1 (wr.alloc o) := fun o => hb2.alloc hb2.size o
      by_cases h1 : t.kind = 1
      · have h1' : (t.kind : Int) = 1 := by omega
        obtain ⟨wv, hwv⟩ : ∃ wv : ByteArray, wv = ⟨(digitsL t.n).toArray⟩ := ⟨_, rfl⟩
        have hwd : wv.data.toList = wordD t := by rw [hwv]; unfold wordD; rw [if_pos h1]
        have hdig := fun w => digits_p t.n (by omega) w
        rw [← hwv] at hdig
        have hcw := closesV_word hwd
        have hsz : wv.size = (wordD t).length := by rw [← hwd]; simp
        generalize (t.kind : Int) = kd at *
        subst h1'
        clear hwv h1
        rcases closesV_cases av with ⟨a1, eca⟩ | ⟨a1, a2, eca⟩ | ⟨a1, a2, eca⟩
        · rw [eca, Bool.true_or, if_pos rfl, List.nil_append] at hacc
          have hm1 : ¬ 9223372036854775807 < acc.length + wv.size := by omega
          have hm2 : ¬ 9223372036854775807 < acc.length + 1 := by omega
          have hm3 : ¬ 9223372036854775807 < acc.length + 1 + wv.size := by omega
          go_wp2_with (go_at_call 68; refine (hdig _).mono ?_; rintro e w2 ⟨rfl, rfl⟩)
          go_roundw
          case rel => exact ⟨k + 1, wv, acc ++ wordD t, by omega, by go_num, rfl, by congr 1; apply ByteArray.ext; simp [← hwd], by rw [← hacc, hcw]; simp, hbB _⟩
          case measure => simp [intOf]; omega
        · rw [eca, Bool.true_or, if_pos rfl, List.nil_append] at hacc
          have hm1 : ¬ 9223372036854775807 < acc.length + wv.size := by omega
          have hm2 : ¬ 9223372036854775807 < acc.length + 1 := by omega
          have hm3 : ¬ 9223372036854775807 < acc.length + 1 + wv.size := by omega
          go_wp2_with (go_at_call 68; refine (hdig _).mono ?_; rintro e w2 ⟨rfl, rfl⟩)
          go_roundw
          case rel => exact ⟨k + 1, wv, acc ++ wordD t, by omega, by go_num, rfl, by congr 1; apply ByteArray.ext; simp [← hwd], by rw [← hacc, hcw]; simp, hbB _⟩
          case measure => simp [intOf]; omega
        · rcases closesV_cases wv with ⟨w1', ecw⟩ | ⟨w1', w2', ecw⟩ | ⟨w1', w2', ecw⟩
          · rw [eca, hcw, ecw, Bool.or_true, if_pos rfl, List.nil_append] at hacc
            have hm1 : ¬ 9223372036854775807 < acc.length + wv.size := by omega
            have hm2 : ¬ 9223372036854775807 < acc.length + 1 := by omega
            have hm3 : ¬ 9223372036854775807 < acc.length + 1 + wv.size := by omega
            go_wp2_with (go_at_call 68; refine (hdig _).mono ?_; rintro e w2 ⟨rfl, rfl⟩)
            go_roundw
            case rel => exact ⟨k + 1, wv, acc ++ wordD t, by omega, by go_num, rfl, by congr 1; apply ByteArray.ext; simp [← hwd], by rw [← hacc]; simp [hcw, ecw], hbB _⟩
            case measure => simp [intOf]; omega
          · rw [eca, hcw, ecw, Bool.or_true, if_pos rfl, List.nil_append] at hacc
            have hm1 : ¬ 9223372036854775807 < acc.length + wv.size := by omega
            have hm2 : ¬ 9223372036854775807 < acc.length + 1 := by omega
            have hm3 : ¬ 9223372036854775807 < acc.length + 1 + wv.size := by omega
            go_wp2_with (go_at_call 68; refine (hdig _).mono ?_; rintro e w2 ⟨rfl, rfl⟩)
            go_roundw
            case rel => exact ⟨k + 1, wv, acc ++ wordD t, by omega, by go_num, rfl, by congr 1; apply ByteArray.ext; simp [← hwd], by rw [← hacc]; simp [hcw, ecw], hbB _⟩
            case measure => simp [intOf]; omega
          · rw [eca, hcw, ecw, Bool.or_false, if_neg (by decide)] at hacc
            have hm1 : ¬ 9223372036854775807 < acc.length + wv.size := by omega
            have hm2 : ¬ 9223372036854775807 < acc.length + 1 := by omega
            have hm3 : ¬ 9223372036854775807 < acc.length + 1 + wv.size := by omega
            go_wp2_with (go_at_call 68; refine (hdig _).mono ?_; rintro e w2 ⟨rfl, rfl⟩)
            go_roundw
            case rel => exact ⟨k + 1, wv, acc ++ [32] ++ wordD t, by omega, by go_num, rfl, by congr 1; apply ByteArray.ext; simp [← hwd], by rw [← hacc]; simp [hcw, ecw], hbB _⟩
            case measure => simp [intOf]; omega
      · have h1' : ¬ (t.kind : Int) = 1 := by omega
        obtain ⟨wv, hwv⟩ : ∃ wv : ByteArray, wv = t.s := ⟨_, rfl⟩
        have hwd : wv.data.toList = wordD t := by rw [hwv]; unfold wordD; rw [if_neg h1]
        have hcw := closesV_word hwd
        have hsz : wv.size = (wordD t).length := by rw [← hwd]; simp
        rw [← hwv] at e1
        clear hwv h1
        rcases closesV_cases av with ⟨a1, eca⟩ | ⟨a1, a2, eca⟩ | ⟨a1, a2, eca⟩
        · rw [eca, Bool.true_or, if_pos rfl, List.nil_append] at hacc
          have hm1 : ¬ 9223372036854775807 < acc.length + wv.size := by omega
          have hm2 : ¬ 9223372036854775807 < acc.length + 1 := by omega
          have hm3 : ¬ 9223372036854775807 < acc.length + 1 + wv.size := by omega
          go_wp2_with fail
          go_roundw
          case rel => exact ⟨k + 1, wv, acc ++ wordD t, by omega, by go_num, rfl, by congr 1; apply ByteArray.ext; simp [← hwd], by rw [← hacc, hcw]; simp, hbB _⟩
          case measure => simp [intOf]; omega
        · rw [eca, Bool.true_or, if_pos rfl, List.nil_append] at hacc
          have hm1 : ¬ 9223372036854775807 < acc.length + wv.size := by omega
          have hm2 : ¬ 9223372036854775807 < acc.length + 1 := by omega
          have hm3 : ¬ 9223372036854775807 < acc.length + 1 + wv.size := by omega
          go_wp2_with fail
          go_roundw
          case rel => exact ⟨k + 1, wv, acc ++ wordD t, by omega, by go_num, rfl, by congr 1; apply ByteArray.ext; simp [← hwd], by rw [← hacc, hcw]; simp, hbB _⟩
          case measure => simp [intOf]; omega
        · rcases closesV_cases wv with ⟨w1', ecw⟩ | ⟨w1', w2', ecw⟩ | ⟨w1', w2', ecw⟩
          · rw [eca, hcw, ecw, Bool.or_true, if_pos rfl, List.nil_append] at hacc
            have hm1 : ¬ 9223372036854775807 < acc.length + wv.size := by omega
            have hm2 : ¬ 9223372036854775807 < acc.length + 1 := by omega
            have hm3 : ¬ 9223372036854775807 < acc.length + 1 + wv.size := by omega
            go_wp2_with fail
            go_roundw
            case rel => exact ⟨k + 1, wv, acc ++ wordD t, by omega, by go_num, rfl, by congr 1; apply ByteArray.ext; simp [← hwd], by rw [← hacc]; simp [hcw, ecw], hbB _⟩
            case measure => simp [intOf]; omega
          · rw [eca, hcw, ecw, Bool.or_true, if_pos rfl, List.nil_append] at hacc
            have hm1 : ¬ 9223372036854775807 < acc.length + wv.size := by omega
            have hm2 : ¬ 9223372036854775807 < acc.length + 1 := by omega
            have hm3 : ¬ 9223372036854775807 < acc.length + 1 + wv.size := by omega
            go_wp2_with fail
            go_roundw
            case rel => exact ⟨k + 1, wv, acc ++ wordD t, by omega, by go_num, rfl, by congr 1; apply ByteArray.ext; simp [← hwd], by rw [← hacc]; simp [hcw, ecw], hbB _⟩
            case measure => simp [intOf]; omega
          · rw [eca, hcw, ecw, Bool.or_false, if_neg (by decide)] at hacc
            have hm1 : ¬ 9223372036854775807 < acc.length + wv.size := by omega
            have hm2 : ¬ 9223372036854775807 < acc.length + 1 := by omega
            have hm3 : ¬ 9223372036854775807 < acc.length + 1 + wv.size := by omega
            go_wp2_with fail
            go_roundw
            case rel => exact ⟨k + 1, wv, acc ++ [32] ++ wordD t, by omega, by go_num, rfl, by congr 1; apply ByteArray.ext; simp [← hwd], by rw [← hacc]; simp [hcw, ecw], hbB _⟩
            case measure => simp [intOf]; omega
    · rw [docJ_end hlt, List.append_nil] at hacc
      have hki : (τ.toks.length : Int) ≤ (k : Int) + 1 := by omega
      clear hnn
      go_wp2_with fail
      exact bodyPost_ret (v := .tuple #[.string ⟨OUT.toArray⟩, .int .i64 0, .int .i64 0]) (by simp [results, Tryz.results43, go_sem, hacc]) rfl ⟨rfl, hbel.trans (hb2.mono hbel.size)⟩
end Go.Proofs.YtddbjcfdmdbmkaaGreatDoor
