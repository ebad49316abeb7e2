/- The law PersianLeaps returns true. -/
import Derived.Test.YtjngioanpphdkaaRefPer
import Derived.Test.YtjngioanpphdkaaPerFn
import Derived.Test.YtjngioanpphdkaaAwPer
namespace Go.Proofs.Ytjngioanpphdkaa.Per
open Go.RowKit

set_option maxHeartbeats 1000000 in
theorem leaps_far (y : Int) (w : World) (h : knB y = false) :
    Calls Try.prog 7 #[.int .i64 y] w fun e w' => e = .returned (.bool true) ∧ Gr w w' := by
  have k : ¬ (-10000 ≤ y ∧ y ≤ 20000 ∧ y ≠ 0) := by rw [← knB_iff, h]; simp
  have H := Lib.hid h; clear h
  by_cases h1 : y < -10000
  · clear k
    go_enter Try.func7, Try.ntmps7
    go_wp2_with fail
    refine (trystlaw05.awake_any _).mono ?_
    rintro e w1 ⟨rfl, hb1⟩
    go_wp2_with (go_at_call 15; refine (leap_no _ _ H.out).mono ?_; rintro e w' ⟨rfl, rfl⟩)
    go_ret
    exact ⟨rfl, hb1⟩
  · have d1 : decide (y < -10000) = false := by simp; omega
    by_cases h2 : 20000 < y
    · clear k
      go_enter Try.func7, Try.ntmps7
      go_wp2_with fail
      refine (trystlaw05.awake_any _).mono ?_
      rintro e w1 ⟨rfl, hb1⟩
      go_wp2_with (go_at_call 15; refine (leap_no _ _ H.out).mono ?_; rintro e w' ⟨rfl, rfl⟩)
      go_ret
      exact ⟨rfl, hb1⟩
    · obtain rfl : y = 0 := by omega
      clear k h1 h2 d1
      go_enter Try.func7, Try.ntmps7
      go_wp2_with fail
      refine (trystlaw05.awake_any _).mono ?_
      rintro e w1 ⟨rfl, hb1⟩
      go_wp2_with (go_at_call 15; refine (leap_no _ _ H.out).mono ?_; rintro e w' ⟨rfl, rfl⟩)
      go_ret
      exact ⟨rfl, hb1⟩
theorem len12_cases {y : Int} (h : y ≠ 0) : (lpB y = true ∧ len y 12 = 30) ∨ (lpB y = false ∧ len y 12 = 29) := by
  have l := len_cases y 12
  rcases lp_cases y with ⟨_, a, b⟩ | ⟨_, a, b⟩
  · exact Or.inl ⟨a, by omega⟩
  · exact Or.inr ⟨a, by omega⟩
set_option maxHeartbeats 1000000 in
theorem leaps_in (y : Int) (w : World) (h : knB y = true) :
    Calls Try.prog 7 #[.int .i64 y] w fun e w' => e = .returned (.bool true) ∧ Gr w w' := by
  obtain ⟨h1, h2, h3⟩ := knB_iff.1 h
  have d1 : decide (y < -10000) = false := by simp; omega
  have d2 : decide (20000 < y) = false := by simp; omega
  have d3 : (y == 0) = false := by simpa using h3
  have g := reflength y 12 (by omega) (by omega)
  have HK := Lib.hid h
  rcases len12_cases h3 with ⟨a, b⟩ | ⟨a, b⟩
  all_goals
    have HA := Lib.hid a
    have HB := Lib.hid b
    clear a b h h3
    go_enter Try.func7, Try.ntmps7
    go_wp2_with fail
    refine (trystlaw05.awake_any _).mono ?_
    rintro e w1 ⟨rfl, hb1⟩
    go_wp2_with (first | (go_at_call 15; refine (leap_yes _ _ HK.out).mono ?_; rintro e w' ⟨rfl, rfl⟩; rw [HA.out]) | (go_at_call 14; refine (g.on _).mono ?_; rintro e w' ⟨rfl, rfl⟩; rw [HB.out]))
    go_ret
    exact ⟨rfl, hb1⟩
theorem leaps_walk (y : Int) (w : World) :
    Calls Try.prog 7 #[.int .i64 y] w fun e w' => e = .returned (.bool true) ∧ Gr w w' := by
  cases h : knB y
  · exact leaps_far y w h
  · exact leaps_in y w h
end Go.Proofs.Ytjngioanpphdkaa.Per
