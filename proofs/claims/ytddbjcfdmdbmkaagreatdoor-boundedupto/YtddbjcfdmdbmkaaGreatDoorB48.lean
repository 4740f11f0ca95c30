import Derived.Test.YtddbjcfdmdbmkaaGreatDoorRows
import Derived.ProofKit
import Derived.ChangeMaps5
import Derived.LaidMore
import Derived.OpenShut
import Derived.Stop.Joined
import Derived.JoinedOf
set_option linter.unusedVariables false
set_option linter.unusedSimpArgs false
/-
  Bounded: the row's facts.
-/
namespace Go.Proofs.YtddbjcfdmdbmkaaGreatDoor

theorem boundedRow_facts : joinedFacts Tryz.prog 8 Tryz.f8 Rows.boundedSpec Rows.boundedUptoRow = true := by kernel_rfl
end Go.Proofs.YtddbjcfdmdbmkaaGreatDoor
