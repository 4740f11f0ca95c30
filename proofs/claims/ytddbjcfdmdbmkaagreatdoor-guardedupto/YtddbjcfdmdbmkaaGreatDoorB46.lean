import Derived.Test.YtddbjcfdmdbmkaaGreatDoorRows
import Derived.ProofKit
import Derived.ChangeMaps5
import Derived.LaidMore
import Derived.OpenShut
import Derived.Stop.Joined
import Derived.JoinedOf
set_option linter.unusedVariables false
set_option linter.unusedSimpArgs false
/-
  Guarded: the row's facts.
-/
namespace Go.Proofs.YtddbjcfdmdbmkaaGreatDoor

theorem guardedRow_facts : joinedFacts Tryz.prog 11 Tryz.f11 Rows.guardedSpec Rows.guardedUptoRow = true := by kernel_rfl
end Go.Proofs.YtddbjcfdmdbmkaaGreatDoor
