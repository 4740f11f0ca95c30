import Derived.Test.YtddbjcfdmdbmkaaGreatDoorRows
import Derived.Test.YtddbjcfdmdbmkaaGreatDoorB00
import Derived.ProofKit
import Derived.ChangeMaps5
import Derived.LaidMore
import Derived.OpenShut
import Derived.Stop.Joined
import Derived.JoinedOf
set_option linter.all false
set_option maxRecDepth 100000
namespace Go.Proofs.YtddbjcfdmdbmkaaGreatDoor
open Go.Proofs.Tryz
theorem Jb:joinedFacts prog 6 Tryz.f6 Rows.allSpec Rows.allUptoRow=true:=by kernel_rfl
theorem S6:joinedFacts prog 5 Tryz.f5 Rows.feedsSpec Rows.feedsUptoRow=true:=by kernel_rfl
