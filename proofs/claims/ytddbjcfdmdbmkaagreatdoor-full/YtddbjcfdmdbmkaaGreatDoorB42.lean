import Derived.Test.YtddbjcfdmdbmkaaGreatDoorRows
import Derived.ProofKit
import Derived.ChangeMaps5
import Derived.LaidMore
import Derived.OpenShut
import Derived.Stop.Joined
import Derived.JoinedOf
set_option linter.unusedVariables false
set_option linter.unusedSimpArgs false
/-
  Full: the row's facts.
-/
namespace Go.Proofs.YtddbjcfdmdbmkaaGreatDoor

theorem fullRow_facts : joinedFacts Tryz.prog 7 Tryz.f7 Rows.fullSpec Rows.fullRow = true := by kernel_rfl
end Go.Proofs.YtddbjcfdmdbmkaaGreatDoor
