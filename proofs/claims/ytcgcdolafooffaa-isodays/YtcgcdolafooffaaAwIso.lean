/- What the statements' own check of one date returns (package trystlaw03). -/
import Derived.Test.YtcgcdolafooffaaIsoFrom
namespace Go.Proofs.Ytcgcdolafooffaa.trystlaw03
open Go.RowKit

set_option maxHeartbeats 400000 in
theorem awake_any (w : World) :
    Calls Try.prog 8 #[] w fun e w' => e = .returned (.bool true) ∧ Gr w w' := by
  have HN : Hid (Iso.num 1 1 1 = 1) := by show _ = _; decide
  go_enter Try.func8, Try.ntmps8
  go_wp2_with fail
  refine (Iso.from_yes 1 1 1 _ (by decide)).mono ?_
  rintro e w1 ⟨rfl, hb⟩
  rw [HN.out]
  go_wp2
  go_ret
  exact ⟨rfl, hb⟩
end Go.Proofs.Ytcgcdolafooffaa.trystlaw03
