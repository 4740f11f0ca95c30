import Derived.Test.YtddbjcfdmdbmkaaGreatDoorB05
import Derived.Deep.LoopGhost
import Derived.Shelf.Abstract
set_option linter.unusedVariables false
set_option linter.unusedSimpArgs false
namespace Go.Proofs.YtddbjcfdmdbmkaaGreatDoor
open Go.RowKit

set_option maxHeartbeats 400000 in
theorem isBlank_any (c : UInt8) (w : World) : Calls Tryz.prog 80 #[.int .u8 c.toNat] w fun e w' => e = .returned (.bool (isBlankB c)) ∧ w' = w := by
  by_cases h1 : c = 32
  · subst h1
    go_enter Tryz.func80, Tryz.ntmps80
    go_wp2
    go_ret
    exact ⟨rfl, rfl⟩
  · have b1 : ((c.toNat : Int) == 32) = false := by rw [beq_eq_false_iff_ne]; intro h; exact h1 (UInt8.toNat_inj.1 (by exact_mod_cast h))
    have c1 : (c == 32) = false := by simpa using h1
    have HB : Hid (isBlankB c = (c == 10)) := by show _ = _; unfold isBlankB; rw [c1]; rfl
    clear h1 c1
    by_cases h2 : c = 10
    · subst h2
      go_enter Tryz.func80, Tryz.ntmps80
      go_wp2
      go_ret
      exact ⟨rfl, rfl⟩
    · have b2 : ((c.toNat : Int) == 10) = false := by rw [beq_eq_false_iff_ne]; intro h; exact h2 (UInt8.toNat_inj.1 (by exact_mod_cast h))
      have HC : Hid ((c == 10) = false) := by show _ = _; simpa using h2
      clear h2
      go_enter Tryz.func80, Tryz.ntmps80
      go_wp2
      go_ret
      exact ⟨ret_bool (by rw [HB.out, HC.out]), rfl⟩

set_option maxHeartbeats 400000 in
theorem isLetter_any (c : UInt8) (w : World) : Calls Tryz.prog 125 #[.int .u8 c.toNat] w fun e w' => e = .returned (.bool (isSmallB c)) ∧ w' = w := by
  have HB : Hid (isSmallB c = (decide ((97 : Int) ≤ c.toNat) && decide ((c.toNat : Int) ≤ 122))) := by
    show _ = _
    unfold isSmallB
    congr 1 <;> (rw [decide_eq_decide]; omega)
  by_cases h1 : (97 : Int) ≤ (c.toNat : Int)
  · go_enter Tryz.func125, Tryz.ntmps125
    go_wp2
    go_ret
    exact ⟨ret_bool (by rw [HB.out]; simp [h1]), rfl⟩
  · have h2 : decide ((97 : Int) ≤ (c.toNat : Int)) = false := by simpa using h1
    go_enter Tryz.func125, Tryz.ntmps125
    go_wp2
    go_ret
    exact ⟨ret_bool (by rw [HB.out, h2]; rfl), rfl⟩

set_option maxHeartbeats 400000 in
theorem isDigit_any (c : UInt8) (w : World) : Calls Tryz.prog 127 #[.int .u8 c.toNat] w fun e w' => e = .returned (.bool (isDigitB c)) ∧ w' = w := by
  have HB : Hid (isDigitB c = (decide ((48 : Int) ≤ c.toNat) && decide ((c.toNat : Int) ≤ 57))) := by
    show _ = _
    unfold isDigitB
    congr 1 <;> (rw [decide_eq_decide]; omega)
  by_cases h1 : (48 : Int) ≤ (c.toNat : Int)
  · go_enter Tryz.func127, Tryz.ntmps127
    go_wp2
    go_ret
    exact ⟨ret_bool (by rw [HB.out]; simp [h1]), rfl⟩
  · have h2 : decide ((48 : Int) ≤ (c.toNat : Int)) = false := by simpa using h1
    go_enter Tryz.func127, Tryz.ntmps127
    go_wp2
    go_ret
    exact ⟨ret_bool (by rw [HB.out, h2]; rfl), rfl⟩

def ClassAt (g : Nat) (p : UInt8 → Bool) : Prop := (∀ args w, (callFunc g args).run Tryz.prog w = .ok (.enter g args) w) ∧
  ∀ (c : UInt8) (w : World), Calls Tryz.prog g #[.int .u8 c.toNat] w fun e w' => e = .returned (.bool (p c)) ∧ w' = w
theorem class_blank : ClassAt 80 isBlankB := ⟨Go.Proofs.enters_of Tryz.func80 (by kernel_rfl) rfl, isBlank_any⟩
theorem class_letter : ClassAt 125 isSmallB := ⟨Go.Proofs.enters_of Tryz.func125 (by kernel_rfl) rfl, isLetter_any⟩
theorem class_digit : ClassAt 127 isDigitB := ⟨Go.Proofs.enters_of Tryz.func127 (by kernel_rfl) rfl, isDigit_any⟩

set_option maxHeartbeats 400000 in
theorem span_any {g : Nat} {p : UInt8 → Bool} (hg : ClassAt g p) (s : ByteArray) (w : World) (hs : s.size ≤ 1000000) :
    Calls Tryz.prog 79 #[.string s, .func (.func g) #[] #[]] w fun e w' => e = .returned (.int .i64 (spanP p s)) ∧ w' = w := by
  obtain ⟨eg, hc⟩ := hg
  go_enter Tryz.func79, Tryz.ntmps79
  go_wp2
  go_loop [5] (fun i => ∃ k : Nat, k ≤ s.size ∧ i = .int .i64 k ∧ Hid (spanTo p s k = spanP p s)) (fun i => s.size - (intOf i).toNat)
  case atStart => exact ⟨0, Nat.zero_le _, rfl, rfl⟩
  case round =>
    obtain ⟨k, hk, rfl, HM⟩ := hrel
    by_cases hlt : k < s.size
    · have hcall := hc s[k] w
      cases hp : p s[k] with
      | true =>
        have HT : Hid (spanTo p s (k + 1) = spanP p s) := (span_step p s k hlt hp).trans HM.out
        rw [hp] at hcall
        clear hp
        go_wp2_with (go_at_fn g; refine hcall.mono ?_; rintro e w' ⟨rfl, rfl⟩)
        go_round
        case rel => exact ⟨k + 1, by omega, by go_num, HT⟩
        case measure => simp [intOf]; omega
      | false =>
        have HT : Hid (spanP p s = k) := HM.out.symm.trans (span_stop p s k hlt hp)
        rw [hp] at hcall
        clear hp
        go_wp2_with (go_at_fn g; refine hcall.mono ?_; rintro e w' ⟨rfl, rfl⟩)
        go_ret
        exact ⟨ret_int (by rw [HT.out]), rfl⟩
    · have HT : Hid (spanP p s = k) := HM.out.symm.trans (span_end p s k (by omega))
      go_wp2
      go_ret
      exact ⟨ret_int (by rw [HT.out]), rfl⟩
end Go.Proofs.YtddbjcfdmdbmkaaGreatDoor
