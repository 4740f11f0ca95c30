import Derived.Test.YtddbjcfdmdbmkaaGreatDoorB01
import Derived.Test.YtddbjcfdmdbmkaaGreatDoorB18
set_option linter.unusedVariables false
set_option linter.unusedSimpArgs false
namespace Go.Proofs.YtddbjcfdmdbmkaaGreatDoor

theorem sum_most : ((List.range 13).all fun r => (List.range 8).all fun m => sumCho r m == (mostAcc r m).1) = true := by kernel_rfl
theorem sumCho_most {r m : Nat} (hr : r ≤ 12) (hm : m ≤ 7) : sumCho r m = (mostAcc r m).1 := by
  have := List.all_eq_true.1 sum_most r (List.mem_range.2 (by omega))
  have := List.all_eq_true.1 this m (List.mem_range.2 (by omega))
  simpa using this
end Go.Proofs.YtddbjcfdmdbmkaaGreatDoor
