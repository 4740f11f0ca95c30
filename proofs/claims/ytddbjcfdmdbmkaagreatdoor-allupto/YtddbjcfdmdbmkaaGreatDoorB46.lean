import Derived.Test.YtddbjcfdmdbmkaaGreatDoorB45
import Derived.Test.YtddbjcfdmdbmkaaGreatDoorTie
import Derived.Test.YtddbjcfdmdbmkaaGreatDoorCards
import Derived.SevenTiedAt
set_option linter.all false
set_option maxRecDepth 100000
namespace Go.Proofs.YtddbjcfdmdbmkaaGreatDoor
open Go Go.Proofs.Tryz
theorem all_card_holds:Rows.AllUptoCardSaid:=
 Claim7.holds_tied_plain_at .later [] [.data,.data,.data,.data,.sentinel,.sentinel,.pinned] true Rows.allUptoCard.stood.harness true
  J2 (λ_ h=>by cases h) (by kernel_rfl) (λ_ h=>by cases h) allUpto_row_tie rfl ⟨rfl,rfl⟩ (by kernel_rfl) rfl
  (λah c d e=>by
    obtain rfl:ah=6:=ty ((show prog.funcNamed Rows.allUptoRow.func=some 6 by kernel_rfl).symm.trans d)|>.symm
    obtain rfl:c=Tryz.f6:=(ty (func6.symm.trans e)).symm
    exact⟨by kernel_rfl,λj a b=>by
     rw[Tryz.params6]at b
     have f:a∈[33]:=by simpa using JD b
     have g:([33].all λi=>!prog.wantsStandIn i)=true:=by kernel_rfl
     exact(show prog.wantsStandIn a=false by simpa using lq.1 g a f)⟩)
  (by kernel_rfl)
