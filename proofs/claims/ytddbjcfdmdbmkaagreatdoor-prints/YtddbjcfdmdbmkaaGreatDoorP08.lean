import Derived.Test.YtddbjcfdmdbmkaaGreatDoorP04
import Derived.Test.YtddbjcfdmdbmkaaGreatDoorB31
import Derived.Test.YtddbjcfdmdbmkaaGreatDoorP07
set_option linter.unusedVariables false
set_option linter.unusedSimpArgs false
/-
  The program's Print.
-/
namespace Go.Proofs.YtddbjcfdmdbmkaaGreatDoor
open Go.RowKit

theorem trim_len (w : List UInt8) : (trimL w).length ≤ w.length + 1 := by
  rcases trim_eq w with ⟨h, _⟩ | ⟨b, l, h, _, z, h3, _⟩
  · rw [h]; simp
  · rw [h]
    have := congrArg List.length h3
    rw [List.length_append] at this
    omega
theorem plain_len (t : STok) : (plainL t).length ≤ t.text.size + 1 := by
  have hs : t.text.data.toList.length = t.text.size := by simp
  unfold plainL
  split
  · have := trim_len t.text.data.toList; omega
  · omega
theorem join_len {N : Nat} : ∀ (ts : List STok) (tb : Bool), (∀ t ∈ ts, t.text.size ≤ N) → (joinL tb ts).length ≤ ts.length * (N + 2) := by
  intro ts
  induction ts with
  | nil => intro tb _; unfold joinL; simp
  | cons t ts ih =>
    intro tb h
    unfold joinL
    split
    · simp
    · have h1 := plain_len t
      have h2 := h t (by simp)
      have h3 := ih (closesB t) (fun u hu => h u (by simp [hu]))
      have h4 : (gapL tb t).length ≤ 1 := by unfold gapL; split <;> simp
      simp only [List.length_append, List.length_cons, Nat.add_mul]
      omega
theorem stoks_size (s : ByteArray) : ∀ n at_, at_ ≤ s.size → ∀ t ∈ stoks s n at_, t.text.size ≤ s.size := by
  intro n
  induction n with
  | zero => intro at_ _ t ht; simp [stoks] at ht
  | succ n ih =>
    intro at_ h t ht
    obtain ⟨p1, p2, _⟩ := stokAt_spec s at_ h
    unfold stoks at ht
    split at ht
    · rw [List.mem_singleton.1 ht]; exact Nat.le_trans (Nat.le_add_left _ _) p2
    · rcases List.mem_cons.1 ht with rfl | ht
      · exact Nat.le_trans (Nat.le_add_left _ _) p2
      · exact ih _ p2 t ht
theorem toks_bounds {s : ByteArray} {ts : List STok} {n : Nat} (hn : n = s.size + 1) (e : stoks s n 0 = ts) (hs : s.size ≤ 600) : (joinL true ts).length ≤ 1000000 ∧ ts.length ≤ 601 := by
  have h1 := stoks_size s n 0 (Nat.zero_le _)
  have h2 := (stoks_good s n 0 (Nat.zero_le _) (by omega)).2
  rw [e] at h1 h2
  have h3 := join_len ts true (fun t ht => Nat.le_trans (h1 t ht) hs)
  have h4 : ts.length * (600 + 2) ≤ 601 * 602 := Nat.mul_le_mul (by omega) (by omega)
  exact ⟨by omega, by omega⟩
/-- what Print answers -/
def prtP (s : ByteArray) : ByteArray × Nat × Nat := match herP s with
  | .inr (p, e) => (⟨#[]⟩, p, e)
  | .inl _ => (joinP (tokensP s), 0, 0)
theorem prt_err {s : ByteArray} {p e : Nat} (h : herP s = .inr (p, e)) : prtP s = (⟨#[]⟩, p, e) := by unfold prtP; rw [h]
theorem prt_ok {s : ByteArray} {x : PPat × Nat × List (List PPart)} {ts : List STok} (et : tokensP s = ts) (h : herP s = .inl x) : prtP s = (joinP ts, 0, 0) := by unfold prtP; rw [h, et]

set_option maxRecDepth 100000 in
set_option maxHeartbeats 1600000 in
theorem print_p (s : ByteArray) (w : World) :
    Calls Tryz.prog 18 #[.string s] w fun e w' => e = .returned (.tuple #[.string (prtP s).1, .int .i64 (prtP s).2.1, .int .i64 (prtP s).2.2]) ∧ Below w.heap.size w w' := by
  have hread := read_h s w
  cases hr : herP s with
  | inr r =>
    obtain ⟨pl, er⟩ := r
    have he := (her_ok s).2 pl er hr
    have he' : ((er : Int) != 0) = true := by simp; omega
    have HR : Hid (herP s = .inr (pl, er)) := hr
    rw [prt_err hr]
    clear he hr
    go_enter Tryz.func18, Tryz.ntmps18
    go_wp2_with fail
    refine hread.mono ?_
    rintro e w1 ⟨v, rfl, hbel, hpost⟩
    rw [HR.out] at hpost
    obtain ⟨tv, rfl⟩ := hpost
    unfold zeroPlan
    go_wp2
    exact bodyPost_ret (v := .tuple #[.string ⟨#[]⟩, .int .i64 pl, .int .i64 er]) (by simp [results, Tryz.results18, go_sem]) rfl ⟨rfl, hbel.alloc hbel.size _⟩
  | inl r =>
    obtain ⟨pat, bd, ps⟩ := r
    obtain ⟨ts, et⟩ : ∃ ts, tokensP s = ts := ⟨_, rfl⟩
    have hs : s.size ≤ 600 := by
      by_cases hs : 600 < s.size
      · rw [her_T et, if_pos hs] at hr; cases hr
      · omega
    have hpos : 0 < ts.length := by
      have := her_toks et hr
      cases ts with
      | nil => exact this.elim
      | cons _ _ => simp
    obtain ⟨hJ, hl⟩ := toks_bounds rfl et hs
    have HR : Hid (herP s = .inl (pat, bd, ps)) := hr
    rw [prt_ok et hr]
    clear hr hs
    go_enter Tryz.func18, Tryz.ntmps18
    go_wp2_with fail
    refine hread.mono ?_
    rintro e w1 ⟨v, rfl, hbel, hpost⟩
    rw [HR.out] at hpost
    obtain ⟨tv, sv, rfl, hP, hrow⟩ := hpost
    obtain ⟨pa, pn, pc, epv⟩ : ∃ a n c, sv = .slice a n c := by obtain ⟨vs, _, h, _⟩ := hP; exact row_form h
    subst epv
    clear hP
    rw [et] at hrow
    obtain ⟨tg, cap, rfl⟩ : ∃ tg cap, tv = .slice (some ⟨tg, 0, none⟩) ts.length cap := by
      rcases hrow.2 with ⟨_, h0⟩ | ⟨g, cap, cur, h, _⟩
      · omega
      · exact ⟨g, cap, h⟩
    obtain ⟨hT, _, hc⟩ := tokRow_of hrow
    have hbp := hbel.alloc hbel.size (.cells #[.int .i64 pat.window, .int .i64 pat.rate, .int .i64 bd, .slice pa pn pc] 67)
    have hT2 : TokRow (w1.alloc (.cells #[.int .i64 pat.window, .int .i64 pat.rate, .int .i64 bd, .slice pa pn pc] 67)) tg 0 ts := hT.of_eq (Lib.alloc_old w1 _ tg hT.lt) (by simp)
    have hjoin := join_p hT2 (by omega) (by omega) hc
    clear hrow hread
    go_wp2_with (go_at_call 42; refine hjoin.mono ?_; rintro e w2 ⟨rfl, hb2⟩)
    exact bodyPost_ret (v := .tuple #[.string (joinP ts), .int .i64 0, .int .i64 0]) (by simp [results, Tryz.results18, go_sem, joinP]) rfl ⟨rfl, hbp.trans (hb2.mono hbp.size)⟩
end Go.Proofs.YtddbjcfdmdbmkaaGreatDoor
