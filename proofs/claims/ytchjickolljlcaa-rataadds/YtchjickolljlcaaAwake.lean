/- What the statements' own check of one date returns; and trystref01.In. -/
import Derived.Test.YtchjickolljlcaaDay
namespace Go.Proofs.Ytchjickolljlcaa
open Go.RowKit

set_option maxHeartbeats 400000 in
theorem in_any (n : Int) (w : World) :
    Calls Try.prog 20 #[.int .i64 n] w fun e w' => e = .returned (.bool (Cal.dayB n)) ∧ w = w' := by
  go_enter Try.func20, Try.ntmps20
  go_wp2
  all_goals go_ret
  all_goals refine ⟨ret_bool ?_, rfl⟩
  all_goals rw [Bool.eq_iff_iff, Cal.dayB_iff]
  all_goals simp
  all_goals omega

theorem num_awake : Cal.num 2000 3 1 = 730180 := by decide
set_option maxHeartbeats 400000 in
theorem awake_any (w : World) :
    Calls Try.prog 9 #[] w fun e w' => e = .returned (.bool true) ∧ Gr w w' := by
  go_enter Try.func9, Try.ntmps9
  go_wp2_with fail
  refine (day_yes 2000 3 1 _ (by decide)).mono ?_
  rintro e w1 ⟨rfl, hb⟩
  rw [num_awake]
  go_wp2
  go_ret
  exact ⟨rfl, hb⟩
end Go.Proofs.Ytchjickolljlcaa
