import Derived.Test.YtddbjcfdmdbmkaaGreatDoorProg
import Derived.WalkKit
import Derived.WalkSpells
import Derived.WalkLawsBesides
set_option linter.unusedVariables false
set_option linter.unusedSimpArgs false
namespace Go.Proofs.YtddbjcfdmdbmkaaGreatDoor
open Go.RowKit

theorem ret_int {k : IntKind} {a b : Int} (h : a = b) : Ending.returned (.int k a) = .returned (.int k b) := by rw [h]
theorem ret_bool {a b : Bool} (h : a = b) : Ending.returned (.bool a) = .returned (.bool b) := by rw [h]

def memB (c : UInt8) (l : List UInt8) : Bool := l.any (fun x => x == c)

theorem take_snoc (s : ByteArray) (k : Nat) (h : k < s.size) : s.data.toList.take (k + 1) = s.data.toList.take k ++ [s[k]] := by
  rw [List.take_succ_eq_append_getElem (by simpa using h)]; rfl

theorem ByteArray.getElem_mem_data (s : ByteArray) (k : Nat) (h : k < s.size) : s[k] ∈ s.data.toList := by
  have : s[k] = s.data.toList[k]'(by simpa using h) := rfl
  rw [this]; exact List.getElem_mem _

set_option maxHeartbeats 400000 in
theorem among_any (c : UInt8) (s : ByteArray) (w : World) (hs : s.size ≤ maxLen) :
    Calls Tryz.prog 141 #[.int .u8 c.toNat, .string s] w fun e w' => e = .returned (.bool (memB c s.data.toList)) ∧ w' = w := by
  unfold maxLen at hs
  go_enter Tryz.func141, Tryz.ntmps141
  go_wp2
  go_loop [5] (fun i => ∃ k : Nat, k ≤ s.size ∧ i = .int .i64 k ∧ memB c (s.data.toList.take k) = false) (fun i => s.size - (intOf i).toNat)
  case atStart => exact ⟨0, Nat.zero_le _, rfl, rfl⟩
  case round =>
    obtain ⟨k, hk, rfl, hm⟩ := hrel
    have HM : Hid (memB c (s.data.toList.take k) = false) := hm
    clear hm
    by_cases hlt : k < s.size
    · have HT : Hid (memB c (s.data.toList.take (k+1)) = (s[k] == c)) := by
        show _ = _
        rw [take_snoc s k hlt]; have := HM.out; unfold memB at *; simp [this]
      by_cases hc : s[k] = c
      · have hb : ((s[k].toNat : Int) == (c.toNat : Int)) = true := by simp [hc]
        have HF : Hid (memB c s.data.toList = true) := by
          show _ = _
          unfold memB; rw [List.any_eq_true]
          exact ⟨s[k], ByteArray.getElem_mem_data s k hlt, by simp [hc]⟩
        clear hc
        go_wp2
        go_ret
        exact ⟨ret_bool HF.out.symm, rfl⟩
      · have hb : ((s[k].toNat : Int) == (c.toNat : Int)) = false := by
          rw [beq_eq_false_iff_ne]; intro h; exact hc (UInt8.toNat_inj.1 (by exact_mod_cast h))
        have HC : Hid ((s[k] == c) = false) := by show _ = _; simpa using hc
        clear hc
        go_wp2
        go_round
        case rel => exact ⟨k + 1, by omega, by go_num, by rw [HT.out, HC.out]⟩
        case measure => simp [intOf]; omega
    · go_wp2
      go_ret
      exact ⟨ret_bool (by have := HM.out; rw [List.take_of_length_le (by simp; omega)] at this; exact this.symm), rfl⟩
end Go.Proofs.YtddbjcfdmdbmkaaGreatDoor
