/- What the statements' own check of one date returns (package trystlaw02). -/
import Derived.Test.YthfmfbdnafbmdaaJulFrom
namespace Go.Proofs.Ythfmfbdnafbmdaa.trystlaw02
open Go.RowKit

set_option maxHeartbeats 400000 in
theorem awake_any (w : World) :
    Calls Try.prog 11 #[] w fun e w' => e = .returned (.bool true) ∧ Gr w w' := by
  have HN : Hid (Jul.num 1 1 3 = 1) := by show _ = _; decide
  go_enter Try.func11, Try.ntmps11
  go_wp2_with fail
  refine (Jul.from_yes 1 1 3 _ (by decide)).mono ?_
  rintro e w1 ⟨rfl, hb⟩
  rw [HN.out]
  go_wp2
  go_ret
  exact ⟨rfl, hb⟩
end Go.Proofs.Ythfmfbdnafbmdaa.trystlaw02
