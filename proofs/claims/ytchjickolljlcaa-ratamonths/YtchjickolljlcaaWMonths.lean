/- The law RataMonths returns true. -/
import Derived.Test.YtchjickolljlcaaRefGreg2
namespace Go.Proofs.Ytchjickolljlcaa
open Go.RowKit

set_option maxHeartbeats 1000000 in
theorem months_walk (y m : Int) (w : World) (y1 : -32768 ≤ y) (y2 : y ≤ 32767) :
    Calls Try.prog 8 #[.int .i16 y, .int .i64 m] w fun e w' => e = .returned (.bool true) ∧ Gr w w' := by
  go_enter Try.func8, Try.ntmps8
  go_wp2_with fail
  refine (awake_any _).mono ?_
  rintro e w1 ⟨rfl, hb1⟩
  go_wp2_with fail
  refine (leap_any _ _).mono ?_
  rintro e w' ⟨rfl, rfl⟩
  go_wp2_with fail
  refine (refleap_any _ _ (by omega) (by omega)).mono ?_
  rintro e w' ⟨rfl, rfl⟩
  go_wp2_with fail
  refine (length_any _ _ _).mono ?_
  rintro e w' ⟨rfl, rfl⟩
  go_wp2_with fail
  refine ((reflength0 _ _ (by omega) (by omega)).on _).mono ?_
  rintro e w' ⟨rfl, rfl⟩
  go_wp2
  go_ret
  exact ⟨rfl, hb1⟩
end Go.Proofs.Ytchjickolljlcaa
