/- The law HebrewYears returns true. -/
import Derived.Test.YthpdnlmjnfllcaaRefHeb
import Derived.Test.YthpdnlmjnfllcaaHebFn
import Derived.Test.YthpdnlmjnfllcaaAwHeb
namespace Go.Proofs.Ythpdnlmjnfllcaa.Heb
open Go.RowKit

set_option maxHeartbeats 1000000 in
theorem years_far (y m : Int) (w : World) (h : knB y = false) :
    Calls Try.prog 7 #[.int .i64 y, .int .i64 m] w fun e w' => e = .returned (.bool true) ∧ Gr w w' := by
  have k : ¬ (1 ≤ y ∧ y ≤ 20000) := by rw [← knB_iff, h]; simp
  have HL : Hid (len y m = 0) := by have := len_cases y m; show _ = _; omega
  have H := Lib.hid h; clear h
  by_cases h1 : y < 1
  · clear k
    go_enter Try.func7, Try.ntmps7
    go_wp2_with fail
    refine (trystlaw06.awake_any _).mono ?_
    rintro e w1 ⟨rfl, hb1⟩
    go_wp2_with (first | (go_at_call 16; refine (begins_no _ _ H.out).mono ?_; rintro e w' ⟨rfl, rfl⟩) | (go_at_call 17; refine (leap_no _ _ H.out).mono ?_; rintro e w' ⟨rfl, rfl⟩) | (go_at_call 18; refine (length_no _ _ _ HL.out).mono ?_; rintro e w' ⟨rfl, rfl⟩))
    go_ret
    exact ⟨rfl, hb1⟩
  · have d1 : decide (y < 1) = false := by simp; omega
    have h2 : 20000 < y := by omega
    clear k
    go_enter Try.func7, Try.ntmps7
    go_wp2_with fail
    refine (trystlaw06.awake_any _).mono ?_
    rintro e w1 ⟨rfl, hb1⟩
    go_wp2_with (first | (go_at_call 16; refine (begins_no _ _ H.out).mono ?_; rintro e w' ⟨rfl, rfl⟩) | (go_at_call 17; refine (leap_no _ _ H.out).mono ?_; rintro e w' ⟨rfl, rfl⟩) | (go_at_call 18; refine (length_no _ _ _ HL.out).mono ?_; rintro e w' ⟨rfl, rfl⟩))
    go_ret
    exact ⟨rfl, hb1⟩
set_option maxHeartbeats 2000000 in
theorem years_in (y m : Int) (w : World) (h : knB y = true) :
    Calls Try.prog 7 #[.int .i64 y, .int .i64 m] w fun e w' => e = .returned (.bool true) ∧ Gr w w' := by
  obtain ⟨h1, h2⟩ := knB_iff.1 h
  have d1 : decide (y < 1) = false := by simp; omega
  have d2 : decide (20000 < y) = false := by simp; omega
  have HG := Lib.hid (reflength y m h1 h2)
  have HK := Lib.hid h
  have nb := ny_bd (y := y) (by omega) (by omega)
  have nb' := ny_bd (y := y + 1) (by omega) (by omega)
  have dd := (yr_all h1 h2).days
  unfold yl at dd
  clear h
  rcases dd with ⟨l, a, b⟩ | ⟨l, a, b⟩
  · have HC : Hid (mc y = 13) := by show _ = _; unfold mc; rw [l]; rfl
    have HA := Lib.hid l; clear l
    go_enter Try.func7, Try.ntmps7
    go_wp2_with fail
    refine (trystlaw06.awake_any _).mono ?_
    rintro e w1 ⟨rfl, hb1⟩
    go_wp2_with (first | (go_at_call 16; refine (begins_yes _ _ HK.out).mono ?_; rintro e w' ⟨rfl, rfl⟩) | (go_at_call 17; refine (leap_is HK.out HA.out _).mono ?_; rintro e w' ⟨rfl, rfl⟩) | (go_at_call 18; refine (length_any _ _ _).mono ?_; rintro e w' ⟨rfl, rfl⟩) | (go_at_call 15; refine (HG.out.on _).mono ?_; rintro e w' ⟨rfl, rfl⟩) | (go_at_call 19; refine (fixed_7 _ _ (by omega) (by omega)).mono ?_; rintro e w' ⟨rfl, rfl⟩) | (go_at_call 20; refine (months _ _ (by omega) (by omega)).mono ?_; rintro e w' ⟨rfl, rfl⟩; rw [HC.out]))
    all_goals go_ret
    all_goals exact ⟨rfl, hb1⟩
  · have HC : Hid (mc y = 12) := by show _ = _; unfold mc; rw [l]; rfl
    have HA := Lib.hid l; clear l
    go_enter Try.func7, Try.ntmps7
    go_wp2_with fail
    refine (trystlaw06.awake_any _).mono ?_
    rintro e w1 ⟨rfl, hb1⟩
    go_wp2_with (first | (go_at_call 16; refine (begins_yes _ _ HK.out).mono ?_; rintro e w' ⟨rfl, rfl⟩) | (go_at_call 17; refine (leap_is HK.out HA.out _).mono ?_; rintro e w' ⟨rfl, rfl⟩) | (go_at_call 18; refine (length_any _ _ _).mono ?_; rintro e w' ⟨rfl, rfl⟩) | (go_at_call 15; refine (HG.out.on _).mono ?_; rintro e w' ⟨rfl, rfl⟩) | (go_at_call 19; refine (fixed_7 _ _ (by omega) (by omega)).mono ?_; rintro e w' ⟨rfl, rfl⟩) | (go_at_call 20; refine (months _ _ (by omega) (by omega)).mono ?_; rintro e w' ⟨rfl, rfl⟩; rw [HC.out]))
    all_goals go_ret
    all_goals exact ⟨rfl, hb1⟩
theorem years_walk (y m : Int) (w : World) :
    Calls Try.prog 7 #[.int .i64 y, .int .i64 m] w fun e w' => e = .returned (.bool true) ∧ Gr w w' := by
  cases h : knB y
  · exact years_far y m w h
  · exact years_in y m w h
end Go.Proofs.Ythpdnlmjnfllcaa.Heb
