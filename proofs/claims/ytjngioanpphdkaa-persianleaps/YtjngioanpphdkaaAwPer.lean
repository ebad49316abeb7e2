/- What the statements' own check of one date returns (package trystlaw05). -/
import Derived.Test.YtjngioanpphdkaaPerFrom
namespace Go.Proofs.Ytjngioanpphdkaa.trystlaw05
open Go.RowKit

set_option maxHeartbeats 400000 in
theorem awake_any (w : World) :
    Calls Try.prog 8 #[] w fun e w' => e = .returned (.bool true) ∧ Gr w w' := by
  have HN : Hid (Per.num 1 1 1 = 226896) := by show _ = _; decide
  go_enter Try.func8, Try.ntmps8
  go_wp2_with fail
  refine (Per.from_yes 1 1 1 _ (by decide)).mono ?_
  rintro e w1 ⟨rfl, hb⟩
  rw [HN.out]
  go_wp2
  go_ret
  exact ⟨rfl, hb⟩
end Go.Proofs.Ytjngioanpphdkaa.trystlaw05
