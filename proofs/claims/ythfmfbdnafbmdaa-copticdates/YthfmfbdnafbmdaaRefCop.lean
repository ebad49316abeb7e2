/- What the reference's functions return for the Coptic calendar (number 6): coptic, Fixed, Months, least, years. -/
import Derived.Test.YthfmfbdnafbmdaaRefLeaf
import Derived.Test.YthfmfbdnafbmdaaCopCal
import Derived.Test.YthfmfbdnafbmdaaRefDate
namespace Go.Proofs.Ythfmfbdnafbmdaa.Cop
open Go.RowKit

theorem ref_eq (y m d : Int) : 103604 + 365 * (y - 1) + y / 4 + 30 * (m - 1) + d = num y m d := by
  unfold num dby; omega
set_option maxHeartbeats 1000000 in
theorem coptic_any (y m d : Int) (w : World) (y1 : -40000 ≤ y) (y2 : y ≤ 40000) (m1 : 1 ≤ m) (m2 : m ≤ 13) (d1 : -100000000 ≤ d) (d2 : d ≤ 100000000) :
    Calls Try.prog 46 #[.int .i64 y, .int .i64 m, .int .i64 d] w fun e w' => e = .returned (.int .i64 (num y m d)) ∧ w = w' := by
  have HF := Lib.hid (ref_eq y m d)
  go_enter Try.func46, Try.ntmps46
  go_wp2_with (go_at_call 26; refine (floor_any _ _ _ (by omega) (by omega) (by omega)).mono ?_; rintro e w' ⟨rfl, rfl⟩)
  go_ret
  exact ⟨ret_int HF.out, rfl⟩
set_option maxHeartbeats 1000000 in
theorem fixed (y m d : Int) (w : World) (y1 : -40000 ≤ y) (y2 : y ≤ 40000) (m1 : 1 ≤ m) (m2 : m ≤ 13) (d1 : -100000000 ≤ d) (d2 : d ≤ 100000000) :
    Calls Try.prog 30 #[.int .i64 6, .int .i64 y, .int .i64 m, .int .i64 d] w fun e w' => e = .returned (.int .i64 (num y m d)) ∧ w = w' := by
  go_enter Try.func30, Try.ntmps30
  go_wp2_with (go_at_call 46; refine (coptic_any _ _ _ _ y1 y2 m1 (by omega) d1 d2).mono ?_; rintro e w' ⟨rfl, rfl⟩)
  go_ret
  exact ⟨rfl, rfl⟩
set_option maxHeartbeats 1000000 in
theorem months (y : Int) (w : World) : Calls Try.prog 29 #[.int .i64 6, .int .i64 y] w fun e w' => e = .returned (.int .i64 13) ∧ w = w' := by
  go_enter Try.func29, Try.ntmps29
  go_wp2
  go_ret
  exact ⟨rfl, rfl⟩
set_option maxHeartbeats 1000000 in
theorem least (w : World) : Calls Try.prog 24 #[.int .i64 6] w fun e w' => e = .returned (.int .i64 (-800)) ∧ w = w' := by
  go_enter Try.func24, Try.ntmps24
  go_wp2
  go_ret
  exact ⟨rfl, rfl⟩
set_option maxHeartbeats 1000000 in
theorem years (w : World) : Calls Try.prog 33 #[.int .i64 6] w fun e w' => e = .returned (.tuple #[.int .i64 (-20000), .int .i64 20000]) ∧ w = w' := by
  go_enter Try.func33, Try.ntmps33
  go_wp2
  go_ret2
  exact ⟨rfl, rfl⟩
theorem num_1 (y : Int) : num y 1 1 = dby y + 1 := by unfold num; omega
theorem num_bdw {y m d : Int} (y1 : -40000 ≤ y) (y2 : y ≤ 40000) (m1 : 1 ≤ m) (m2 : m ≤ 13) (d1 : 0 ≤ d) (d2 : d ≤ 1000) : -100000000 ≤ num y m d ∧ num y m d ≤ 100000000 := by
  have := dby_bdw y1 y2
  unfold num; omega
theorem lenOf_eq (y m : Int) : lenOf (fun y => dby y + 1) (fun y m => num y m 1) (fun _ => 13) y m = len y m := by
  have l := len_cases y m
  unfold lenOf
  by_cases h : m < 1 ∨ 13 < m
  · rw [if_pos h]; omega
  · rw [if_neg h]
    by_cases h2 : m < 13
    · rw [if_pos h2]; simp only [num]; omega
    · rw [if_neg h2]
      obtain rfl : m = 13 := by omega
      have d := dby_succ y
      simp only [num]; omega
theorem dom_eq (n : Int) : n - num (yr n) (mon n) 1 + 1 = dom n := by unfold num dom mon; omega
theorem mon_u (n m : Int) (a : 1 ≤ m) (b : m ≤ 13) (c : num (yr n) m 1 ≤ n) (d : m < 13 → n < num (yr n) (m + 1) 1) : m = mon n := by
  simp only [num] at c d
  have y2 := yr_hi n
  have es := dby_succ (yr n)
  have l := len_cases (yr n) 13
  unfold mon
  by_cases hm : m < 13
  · have := d hm; omega
  · omega
end Go.Proofs.Ythfmfbdnafbmdaa.Cop
