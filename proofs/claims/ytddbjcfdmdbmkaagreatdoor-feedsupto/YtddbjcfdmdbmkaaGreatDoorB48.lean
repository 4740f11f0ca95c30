import Derived.Test.YtddbjcfdmdbmkaaGreatDoorB47
import Derived.Test.YtddbjcfdmdbmkaaGreatDoorTie
import Derived.Test.YtddbjcfdmdbmkaaGreatDoorCards
import Derived.SevenTiedAt
set_option linter.all false
set_option maxRecDepth 100000
namespace Go.Proofs.YtddbjcfdmdbmkaaGreatDoor
open Go Go.Proofs.Tryz
theorem feeds_card_holds:Rows.FeedsUptoCardSaid:=
 Claim7.holds_tied_plain_at .later [] [.data,.data,.data,.data,.sentinel,.sentinel,.pinned] true Rows.feedsUptoCard.stood.harness true
  Og (λ_ h=>by cases h) (by kernel_rfl) (λ_ h=>by cases h) feedsUpto_row_tie rfl ⟨rfl,rfl⟩ (by kernel_rfl) rfl
  (λah c d e=>by
    obtain rfl:ah=5:=ty ((show prog.funcNamed Rows.feedsUptoRow.func=some 5 by kernel_rfl).symm.trans d)|>.symm
    obtain rfl:c=Tryz.f5:=(ty (func5.symm.trans e)).symm
    exact⟨by kernel_rfl,λj a b=>by
     rw[Tryz.params5]at b
     have f:a∈[33]:=by simpa using JD b
     have g:([33].all λi=>!prog.wantsStandIn i)=true:=by kernel_rfl
     exact(show prog.wantsStandIn a=false by simpa using lq.1 g a f)⟩)
  (by kernel_rfl)
