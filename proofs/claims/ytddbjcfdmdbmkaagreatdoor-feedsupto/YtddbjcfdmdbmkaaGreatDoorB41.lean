import Derived.Test.YtddbjcfdmdbmkaaGreatDoorRows
import Derived.Test.YtddbjcfdmdbmkaaGreatDoorB20
import Derived.Carry
import Derived.ProofKit
import Derived.ChangeMaps5
import Derived.LaidMore
import Derived.OpenShut
import Derived.Stop.Joined
set_option linter.all false
set_option maxRecDepth 100000
namespace Go.Proofs.YtddbjcfdmdbmkaaGreatDoor
open Go.ChangeShapes Go.WideShapes Go.ChangeAt Go.WideElems Go.RowKit Go.Proofs.Tryz
open Go.IntKind renaming i64->Q
theorem Tryz.ab:ownKnob prog.godebug=none:=by kernel_rfl
theorem F9{a:Int}(h:(Lit.int Q a).wf=true):c1 a:=by
 have b:Q.min= -9223372036854775808:=by kernel_rfl
 have c:Q.max=9223372036854775807:=by kernel_rfl
 have h:(decide (Q.min<=a)&&decide (a<=Q.max))=true:=h;rw[b,c]at h;simp only[hh,jF]at h;exact h
