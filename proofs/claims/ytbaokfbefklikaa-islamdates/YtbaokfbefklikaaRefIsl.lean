/- What the reference's functions return for the Islamic calendar (number 4): islamic, Fixed, Months, least, years. -/
import Derived.Test.YtbaokfbefklikaaRefLeaf
import Derived.Test.YtbaokfbefklikaaIslCal
import Derived.Test.YtbaokfbefklikaaRefDate
namespace Go.Proofs.Ytbaokfbefklikaa.Isl
open Go.RowKit

theorem ref_eq (y m d : Int) : d + 29 * (m - 1) + (6 * m - 1) / 11 + 354 * (y - 1) + (3 + 11 * y) / 30 + 227014 = num y m d := by
  unfold num dby cum; omega
set_option maxHeartbeats 1000000 in
theorem islamic_any (y m d : Int) (w : World) (y1 : -40000 ≤ y) (y2 : y ≤ 40000) (m1 : 1 ≤ m) (m2 : m ≤ 13) (d1 : -100000000 ≤ d) (d2 : d ≤ 100000000) :
    Calls Try.prog 39 #[.int .i64 y, .int .i64 m, .int .i64 d] w fun e w' => e = .returned (.int .i64 (num y m d)) ∧ w = w' := by
  have HF := Lib.hid (ref_eq y m d)
  go_enter Try.func39, Try.ntmps39
  go_wp2_with (go_at_call 22; refine (floor_any _ _ _ (by omega) (by omega) (by omega)).mono ?_; rintro e w' ⟨rfl, rfl⟩)
  go_ret
  exact ⟨ret_int HF.out, rfl⟩
set_option maxHeartbeats 1000000 in
theorem fixed (y m d : Int) (w : World) (y1 : -40000 ≤ y) (y2 : y ≤ 40000) (m1 : 1 ≤ m) (m2 : m ≤ 12) (d1 : -100000000 ≤ d) (d2 : d ≤ 100000000) :
    Calls Try.prog 26 #[.int .i64 4, .int .i64 y, .int .i64 m, .int .i64 d] w fun e w' => e = .returned (.int .i64 (num y m d)) ∧ w = w' := by
  go_enter Try.func26, Try.ntmps26
  go_wp2_with (go_at_call 39; refine (islamic_any _ _ _ _ y1 y2 m1 (by omega) d1 d2).mono ?_; rintro e w' ⟨rfl, rfl⟩)
  go_ret
  exact ⟨rfl, rfl⟩
theorem months (y : Int) (w : World) : Calls Try.prog 25 #[.int .i64 4, .int .i64 y] w fun e w' => e = .returned (.int .i64 12) ∧ w = w' := months12_any 4 y w rfl rfl rfl
set_option maxHeartbeats 1000000 in
theorem least (w : World) : Calls Try.prog 20 #[.int .i64 4] w fun e w' => e = .returned (.int .i64 (-800)) ∧ w = w' := by
  go_enter Try.func20, Try.ntmps20
  go_wp2
  go_ret
  exact ⟨rfl, rfl⟩
set_option maxHeartbeats 1000000 in
theorem years (w : World) : Calls Try.prog 29 #[.int .i64 4] w fun e w' => e = .returned (.tuple #[.int .i64 (-10000), .int .i64 20000]) ∧ w = w' := by
  go_enter Try.func29, Try.ntmps29
  go_wp2
  go_ret2
  exact ⟨rfl, rfl⟩
theorem num_1 (y : Int) : num y 1 1 = dby y + 1 := by unfold num; rw [cum_1]; omega
theorem num_bdw {y m d : Int} (y1 : -40000 ≤ y) (y2 : y ≤ 40000) (m1 : 1 ≤ m) (m2 : m ≤ 12) (d1 : 0 ≤ d) (d2 : d ≤ 1000) : -100000000 ≤ num y m d ∧ num y m d ≤ 100000000 := by
  have := dby_bdw y1 y2
  have := cum_bd m1 m2
  unfold num; omega
theorem lenOf_eq (y m : Int) : lenOf (fun y => dby y + 1) (fun y m => num y m 1) (fun _ => 12) y m = len y m := by
  have l := len_cases y m
  unfold lenOf
  by_cases h : m < 1 ∨ 12 < m
  · rw [if_pos h]; omega
  · rw [if_neg h]
    by_cases h2 : m < 12
    · rw [if_pos h2]; have := cum_succ y (m := m) (by omega) h2; simp only [num]; omega
    · rw [if_neg h2]
      obtain rfl : m = 12 := by omega
      have d := dby_succ y
      have := cum_12
      simp only [num]; omega
theorem dom_eq (n : Int) : n - num (yr n) (mon n) 1 + 1 = dom n := by unfold num dom; omega
theorem mon_u (n m : Int) (a : 1 ≤ m) (b : m ≤ 12) (c : num (yr n) m 1 ≤ n) (d : m < 12 → n < num (yr n) (m + 1) 1) : m = mon n := by
  simp only [num] at c d
  have y2 := yr_hi n
  have es := dby_succ (yr n)
  refine (mo_unique (y := yr n) a b (by omega) ?_).symm
  by_cases hm : m < 12
  · have := d hm; have := cum_succ (yr n) a hm; omega
  · obtain rfl : m = 12 := by omega
    have := cum_12
    have := len_cases (yr n) 12
    omega
end Go.Proofs.Ytbaokfbefklikaa.Isl
