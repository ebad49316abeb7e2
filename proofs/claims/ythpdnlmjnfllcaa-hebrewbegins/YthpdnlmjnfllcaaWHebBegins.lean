/- The law HebrewBegins returns true. -/
import Derived.Test.YthpdnlmjnfllcaaHebFn
import Derived.Test.YthpdnlmjnfllcaaAwHeb
namespace Go.Proofs.Ythpdnlmjnfllcaa.Heb
open Go.RowKit

set_option maxHeartbeats 1000000 in
theorem begins_far (y : Int) (w : World) (h : knB y = false) :
    Calls Try.prog 8 #[.int .i64 y] w fun e w' => e = .returned (.bool true) ∧ Gr w w' := by
  have H := Lib.hid h; clear h
  go_enter Try.func8, Try.ntmps8
  go_wp2_with fail
  refine (trystlaw06.awake_any _).mono ?_
  rintro e w1 ⟨rfl, hb1⟩
  go_wp2_with (first | (go_at_call 16; refine (begins_no _ _ H.out).mono ?_; rintro e w' ⟨rfl, rfl⟩) | (go_at_call 21; refine (mod_any _ _ _ (by omega) (by omega) (by omega) (by omega)).mono ?_; rintro e w' ⟨rfl, rfl⟩))
  go_ret
  exact ⟨rfl, hb1⟩
set_option maxHeartbeats 1000000 in
theorem begins_in (y : Int) (w : World) (h : knB y = true) :
    Calls Try.prog 8 #[.int .i64 y] w fun e w' => e = .returned (.bool true) ∧ Gr w w' := by
  obtain ⟨h1, h2⟩ := knB_iff.1 h
  have nb := ny_bd (y := y) (by omega) (by omega)
  obtain ⟨k0, k3, k5⟩ := (yr_all h1 h2).week
  have b0 : (ny y % 7 != 0) = true := by simpa using k0
  have b3 : (ny y % 7 != 3) = true := by simpa using k3
  have b5 : (ny y % 7 != 5) = true := by simpa using k5
  have H := Lib.hid h; clear h k0 k3 k5
  go_enter Try.func8, Try.ntmps8
  go_wp2_with fail
  refine (trystlaw06.awake_any _).mono ?_
  rintro e w1 ⟨rfl, hb1⟩
  go_wp2_with (first | (go_at_call 16; refine (begins_yes _ _ H.out).mono ?_; rintro e w' ⟨rfl, rfl⟩) | (go_at_call 21; refine (mod_any _ _ _ (by omega) (by omega) (by omega) (by omega)).mono ?_; rintro e w' ⟨rfl, rfl⟩))
  all_goals go_ret
  all_goals exact ⟨rfl, hb1⟩
theorem begins_walk (y : Int) (w : World) :
    Calls Try.prog 8 #[.int .i64 y] w fun e w' => e = .returned (.bool true) ∧ Gr w w' := by
  cases h : knB y
  · exact begins_far y w h
  · exact begins_in y w h
end Go.Proofs.Ythpdnlmjnfllcaa.Heb
