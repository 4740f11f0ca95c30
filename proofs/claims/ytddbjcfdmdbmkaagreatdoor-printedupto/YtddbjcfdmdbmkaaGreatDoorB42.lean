import Derived.Test.YtddbjcfdmdbmkaaGreatDoorRows
import Derived.ProofKit
import Derived.ChangeMaps5
import Derived.LaidMore
import Derived.OpenShut
import Derived.Stop.Joined
import Derived.JoinedOf
set_option linter.unusedVariables false
set_option linter.unusedSimpArgs false
namespace Go.Proofs.YtddbjcfdmdbmkaaGreatDoor

theorem printedRow_facts : joinedFacts Tryz.prog 12 Tryz.f12 Rows.printedSpec Rows.printedUptoRow = true := by kernel_rfl
end Go.Proofs.YtddbjcfdmdbmkaaGreatDoor
