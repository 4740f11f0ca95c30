import Derived.Test.YtddbjcfdmdbmkaaGreatDoorRows
import Derived.ProofKit
import Derived.ChangeMaps5
import Derived.LaidMore
import Derived.OpenShut
import Derived.Stop.Joined
import Derived.JoinedOf
set_option linter.unusedVariables false
set_option linter.unusedSimpArgs false
/-
  Shifted: the row's facts.
-/
namespace Go.Proofs.YtddbjcfdmdbmkaaGreatDoor

theorem shiftedRow_facts : joinedFacts Tryz.prog 13 Tryz.f13 Rows.shiftedSpec Rows.shiftedUptoRow = true := by kernel_rfl
end Go.Proofs.YtddbjcfdmdbmkaaGreatDoor
