/- What the functions of package rata return: Right, Day, Date, InYear, Add. -/
import Derived.Test.YtafpdiikhhikeaaGreatDoorLeaf
import Derived.WalkSmall
namespace Go.Proofs.YtafpdiikhhikeaaGreatDoor
open Go.RowKit

set_option maxHeartbeats 1000000 in
theorem right_any (y m d : Int) (w : World) :
    Calls Tryz.prog 68 #[.agg #[.int .i64 y, .int .i64 m, .int .i64 d]] w fun e w' => e = .returned (.bool (Cal.okB y m d)) ∧ Gr w w' := by
  by_cases a1 : 1 ≤ y
  · by_cases a2 : y ≤ 9999
    · by_cases a3 : 1 ≤ d
      · go_enter Tryz.func68, Tryz.ntmps68
        go_wp2
        go_quiet ((go_at_call 43; exact qsame (length_any _ _ _)))
        go_wp2
        go_ret
        exact ⟨ret_bool (by rw [Bool.eq_iff_iff, Cal.okB_iff]; simp [a1, a2, a3]), ((Gr.refl _).alloc _ _).drewN _⟩
      · have b : decide (1 ≤ d) = false := by simpa using a3
        go_enter Tryz.func68, Tryz.ntmps68
        go_wp2
        go_quiet (fail)
        go_wp2
        go_ret
        exact ⟨ret_bool (by symm; simp only [Cal.okB, decide_eq_false_iff_not]; omega), ((Gr.refl _).alloc _ _).drewN _⟩
    · have b : decide (y ≤ 9999) = false := by simpa using a2
      go_enter Tryz.func68, Tryz.ntmps68
      go_wp2
      go_quiet (fail)
      go_wp2
      go_ret
      exact ⟨ret_bool (by symm; simp only [Cal.okB, decide_eq_false_iff_not]; omega), ((Gr.refl _).alloc _ _).drewN _⟩
  · have b : decide (1 ≤ y) = false := by simpa using a1
    go_enter Tryz.func68, Tryz.ntmps68
    go_wp2
    go_quiet (fail)
    go_wp2
    go_ret
    exact ⟨ret_bool (by symm; simp only [Cal.okB, decide_eq_false_iff_not]; omega), ((Gr.refl _).alloc _ _).drewN _⟩
end Go.Proofs.YtafpdiikhhikeaaGreatDoor
