import Derived.Test.YtddbjcfdmdbmkaaGreatDoorB51
import Derived.Test.YtddbjcfdmdbmkaaGreatDoorTie
import Derived.Test.YtddbjcfdmdbmkaaGreatDoorCards
import Derived.SevenTiedAt
set_option linter.unusedVariables false
set_option linter.unusedSimpArgs false
/-
  Bounded: the tied card.
-/
namespace Go.Proofs.YtddbjcfdmdbmkaaGreatDoor
open Go

theorem bounded_card_holds : Rows.BoundedUptoCardSaid :=
  Claim7.holds_tied_plain_at .later [] [.data, .data, .data, .sentinel, .sentinel] true Rows.boundedUptoCard.stood.harness true
    bounded_holds (fun _ h => by cases h) (by kernel_rfl) (fun _ h => by cases h) boundedUpto_row_tie rfl ⟨rfl, rfl⟩ (by kernel_rfl) rfl
    (fun f fn hf hfn => by
      obtain rfl : f = 8 := Option.some.inj ((show Tryz.prog.funcNamed Rows.boundedUptoRow.func = some 8 by kernel_rfl).symm.trans hf) |>.symm
      obtain rfl : fn = Tryz.f8 := (Option.some.inj (Tryz.func8.symm.trans hfn)).symm
      exact ⟨by kernel_rfl, fun j t ht => by
        rw [Tryz.params8] at ht
        have hm : t ∈ [48, 3, 3, 3, 48] := by simpa using Array.mem_of_getElem? ht
        have hall : ([48, 3, 3, 3, 48].all fun u => !Tryz.prog.wantsStandIn u) = true := by kernel_rfl
        exact (show Tryz.prog.wantsStandIn t = false by simpa using List.all_eq_true.1 hall t hm)⟩)
    (by kernel_rfl)
#print axioms bounded_card_holds
end Go.Proofs.YtddbjcfdmdbmkaaGreatDoor
