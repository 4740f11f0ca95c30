import Derived.Test.YtddbjcfdmdbmkaaGreatDoorRows
import Derived.ProofKit
import Derived.ChangeMaps5
import Derived.LaidMore
import Derived.OpenShut
import Derived.Stop.Joined
import Derived.JoinedOf
set_option linter.unusedVariables false
set_option linter.unusedSimpArgs false
/-
  Reckoned: the row's facts.
-/
namespace Go.Proofs.YtddbjcfdmdbmkaaGreatDoor

theorem reckoned_facts : joinedFacts Tryz.prog 14 Tryz.f14 Rows.reckonedSpec Rows.reckonedRow = true := by kernel_rfl
end Go.Proofs.YtddbjcfdmdbmkaaGreatDoor
