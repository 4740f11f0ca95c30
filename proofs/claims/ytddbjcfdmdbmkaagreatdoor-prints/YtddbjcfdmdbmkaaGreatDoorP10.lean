import Derived.Test.YtddbjcfdmdbmkaaGreatDoorP09
set_option linter.unusedVariables false
set_option linter.unusedSimpArgs false
/-
  The law's own functions: Prints.
-/
namespace Go.Proofs.YtddbjcfdmdbmkaaGreatDoor
open Go.RowKit

set_option maxHeartbeats 400000 in
theorem num2_p (n : Int) (w : World) : Calls Tryz.prog 40 #[.int .i64 n] w fun e w' => e = .returned (.int .i64 n) ∧ w' = w := by
  go_enter Tryz.func40, Tryz.ntmps40
  go_wp2
  go_ret
  exact ⟨rfl, rfl⟩
set_option maxRecDepth 100000 in
set_option maxHeartbeats 1600000 in
theorem docprint_p (s : ByteArray) (w : World) :
    Calls Tryz.prog 43 #[.string s] w fun e w' => e = .returned (.tuple #[.string (prtP s).1, .int .i64 (prtP s).2.1, .int .i64 (prtP s).2.2]) ∧ Below w.heap.size w w' := by
  cases hr : herP s with
  | inr r =>
    obtain ⟨pl, er⟩ := r
    have he := (her_ok s).2 pl er hr
    have he' : ((er : Int) != 0) = true := by simp; omega
    have hd := doc_compile s w
    rw [hr] at hd
    rw [prt_err hr]
    clear he hr
    go_enter Tryz.func43, Tryz.ntmps43
    go_wp2_with fail
    refine hd.mono ?_
    rintro e w1 ⟨v, rfl, hbel, rfl⟩
    go_wp2
    exact bodyPost_ret (v := .tuple #[.string ⟨#[]⟩, .int .i64 pl, .int .i64 er]) (by simp [results, Tryz.results43, go_sem]) rfl ⟨rfl, hbel⟩
  | inl r =>
    obtain ⟨pat, bd, ps⟩ := r
    obtain ⟨ts, et⟩ : ∃ ts, tokensP s = ts := ⟨_, rfl⟩
    have hs : s.size ≤ 600 := by
      by_cases hs : 600 < s.size
      · rw [her_T et, if_pos hs] at hr; cases hr
      · omega
    obtain ⟨hJ, hl⟩ := toks_bounds rfl et hs
    have hK := her_toks et hr
    rw [prt_ok et hr]
    refine docprint_ok (OUT := joinL true ts) (fun w => doc_engine hr w) (fun l hL hT => ?_) w
    obtain ⟨h1, h2⟩ := doc_join ts l 0 true (hT ts et) hK hL
    exact ⟨h1, hJ, by omega⟩

set_option maxRecDepth 100000 in
set_option maxHeartbeats 1600000 in
theorem printed_p (s : ByteArray) (w : World) : Calls Tryz.prog 19 #[.string s] w fun e w' => e = .returned (.bool true) ∧ Below w.heap.size w w' := by
  have hp := print_p s w
  have hd := fun w1 => docprint_p s w1
  generalize prtP s = r at *
  obtain ⟨o, a, b⟩ := r
  simp only at hp hd
  have hn := fun w1 => num2_p (b : Nat) w1
  go_enter Tryz.func19, Tryz.ntmps19
  go_wp2_with (first
    | (go_at_call 18; refine hp.mono ?_; rintro e' w1 ⟨rfl, hb1⟩)
    | (go_at_call 43; refine (hd _).mono ?_; rintro e' w2 ⟨rfl, hb2⟩)
    | (go_at_call 40; refine (hn _).mono ?_; rintro e' w3 ⟨rfl, rfl⟩))
  go_ret
  exact ⟨rfl, hb1.trans (hb2.mono hb1.size)⟩

def prText : ByteArray := ⟨#[32, 119, 105, 116, 104, 105, 110, 10, 48, 49, 48, 32, 114, 97, 116, 101, 32, 53, 32, 120, 32, 58, 32, 49, 116, 104, 101, 110, 32, 121, 58, 50, 32, 105, 102, 32, 121, 32, 46, 32, 97, 61, 120, 46, 97]⟩
def exText2 : ByteArray := ⟨#[119, 105, 116, 104, 105, 110, 32, 49, 48, 32, 114, 97, 116, 101, 32, 53, 32, 120, 58, 49, 32, 116, 104, 101, 110, 32, 121, 58, 50, 32, 105, 102, 32, 121, 46, 97, 32, 61, 32, 120, 46, 97]⟩
theorem ex_print : prtP prText = (exText2, 0, 0) := by kernel_rfl

set_option maxRecDepth 100000 in
set_option maxHeartbeats 3200000 in
theorem prints_p (s : ByteArray) (w : World) : Calls Tryz.prog 4 #[.string s] w fun e w' => e = .returned (.bool true) ∧ Below w.heap.size w w' := by
  have hp0 := print_p prText w
  rw [ex_print] at hp0
  unfold prText exText2 at hp0
  have hc := fun u w1 => printed_p u w1
  cases hr : herP s with
  | inr r =>
    obtain ⟨pl, er⟩ := r
    have he := (her_ok s).2 pl er hr
    have he' : ((er : Int) != 0) = true := by simp; omega
    have hp := fun w1 => print_p s w1
    rw [prt_err hr] at hp
    clear he hr
    go_enter Tryz.func4, Tryz.ntmps4
    go_wp2_with fail
    refine hp0.mono ?_
    rintro e' w1 ⟨rfl, hB⟩
    go_wp2_with (first
      | (go_at_call 19; refine (hc _ _).mono ?_; rintro e' w3 ⟨rfl, hb3⟩; replace hB : Below w.heap.size w w3 := hB.trans (hb3.mono hB.size))
      | (go_at_call_of 18 (Value.string s); refine (hp _).mono ?_; rintro e' w4 ⟨rfl, hb4⟩; replace hB : Below w.heap.size w w4 := hB.trans (hb4.mono hB.size)))
    go_ret
    exact ⟨rfl, hB⟩
  | inl r =>
    obtain ⟨ts, et⟩ : ∃ ts, tokensP s = ts := ⟨_, rfl⟩
    have hp := fun w1 => print_p s w1
    rw [prt_ok et hr] at hp
    obtain ⟨hag, hok⟩ := her_again et hr
    have hq : (joinP ts).size ≤ 600 → prtP (joinP ts) = (joinP ts, 0, 0) := fun h => by
      obtain ⟨y, hy⟩ := hok h
      have := prt_ok rfl hy
      rw [hag] at this
      exact this
    clear hag hok hr
    generalize joinP ts = J at *
    by_cases hJ : J.size ≤ 600
    · have hp2 := fun w1 => print_p J w1
      rw [hq hJ] at hp2
      have hJ' : (J.size : Int) ≤ 600 := by omega
      clear hq hJ
      go_enter Tryz.func4, Tryz.ntmps4
      go_wp2_with fail
      refine hp0.mono ?_
      rintro e' w1 ⟨rfl, hB⟩
      go_wp2_with (first
        | (go_at_call 19; refine (hc _ _).mono ?_; rintro e' w3 ⟨rfl, hb3⟩; replace hB : Below w.heap.size w w3 := hB.trans (hb3.mono hB.size))
        | (go_at_call_of 18 (Value.string s); refine (hp _).mono ?_; rintro e' w4 ⟨rfl, hb4⟩; replace hB : Below w.heap.size w w4 := hB.trans (hb4.mono hB.size))
        | (go_at_call_of 18 (Value.string J); refine (hp2 _).mono ?_; rintro e' w4 ⟨rfl, hb4⟩; replace hB : Below w.heap.size w w4 := hB.trans (hb4.mono hB.size)))
      go_ret
      exact ⟨rfl, hB⟩
    · have hJ' : (600 : Int) < (J.size : Int) := by omega
      clear hq hJ
      go_enter Tryz.func4, Tryz.ntmps4
      go_wp2_with fail
      refine hp0.mono ?_
      rintro e' w1 ⟨rfl, hB⟩
      go_wp2_with (first
        | (go_at_call 19; refine (hc _ _).mono ?_; rintro e' w3 ⟨rfl, hb3⟩; replace hB : Below w.heap.size w w3 := hB.trans (hb3.mono hB.size))
        | (go_at_call_of 18 (Value.string s); refine (hp _).mono ?_; rintro e' w4 ⟨rfl, hb4⟩; replace hB : Below w.heap.size w w4 := hB.trans (hb4.mono hB.size)))
      go_ret
      exact ⟨rfl, hB⟩
end Go.Proofs.YtddbjcfdmdbmkaaGreatDoor
