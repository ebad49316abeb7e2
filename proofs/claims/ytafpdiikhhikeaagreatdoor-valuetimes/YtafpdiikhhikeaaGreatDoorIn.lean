/- What trystref01.In returns. -/
import Derived.Test.YtafpdiikhhikeaaGreatDoorLeaf
namespace Go.Proofs.YtafpdiikhhikeaaGreatDoor
open Go.RowKit

set_option maxHeartbeats 400000 in
theorem in_any (n : Int) (w : World) :
    Calls Tryz.prog 50 #[.int .i64 n] w fun e w' => e = .returned (.bool (Cal.dayB n)) ∧ w = w' := by
  go_enter Tryz.func50, Tryz.ntmps50
  go_wp2
  all_goals go_ret
  all_goals refine ⟨ret_bool ?_, rfl⟩
  all_goals rw [Bool.eq_iff_iff, Cal.dayB_iff]
  all_goals simp
  all_goals omega

end Go.Proofs.YtafpdiikhhikeaaGreatDoor
