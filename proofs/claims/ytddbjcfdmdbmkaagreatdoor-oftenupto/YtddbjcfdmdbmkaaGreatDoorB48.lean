import Derived.Test.YtddbjcfdmdbmkaaGreatDoorRows
import Derived.ProofKit
import Derived.ChangeMaps5
import Derived.LaidMore
import Derived.OpenShut
import Derived.Stop.Joined
import Derived.JoinedOf
set_option linter.unusedVariables false
set_option linter.unusedSimpArgs false
namespace Go.Proofs.YtddbjcfdmdbmkaaGreatDoor

theorem oftenRow_facts : joinedFacts Tryz.prog 10 Tryz.f10 Rows.oftenSpec Rows.oftenUptoRow = true := by kernel_rfl
end Go.Proofs.YtddbjcfdmdbmkaaGreatDoor
