/- What trystref01.In returns. -/
import Derived.Test.YtafpdiikhhikeaaDoorLeaf
namespace Go.Proofs.YtafpdiikhhikeaaDoor
open Go.RowKit

set_option maxHeartbeats 400000 in
theorem in_any (n : Int) (w : World) :
    Calls Tryd.prog 62 #[.int .i64 n] w fun e w' => e = .returned (.bool (Cal.dayB n)) ∧ w = w' := by
  go_enter Tryd.func62, Tryd.ntmps62
  go_wp2
  all_goals go_ret
  all_goals refine ⟨ret_bool ?_, rfl⟩
  all_goals rw [Bool.eq_iff_iff, Cal.dayB_iff]
  all_goals simp
  all_goals omega

end Go.Proofs.YtafpdiikhhikeaaDoor
