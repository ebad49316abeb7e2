/- What the reference's functions return for the Julian calendar (number 1): julian, Fixed, Months, least, years. -/
import Derived.Test.YthfmfbdnafbmdaaRefLeaf
import Derived.Test.YthfmfbdnafbmdaaJulCal
import Derived.Test.YthfmfbdnafbmdaaRefDate
namespace Go.Proofs.Ythfmfbdnafbmdaa.Jul
open Go.RowKit

theorem ref_le {y m d : Int} (h : m ≤ 2) : -2 + 365 * (y - 1) + (y - 1) / 4 + (367 * m - 362) / 12 + d = num y m d := by
  unfold num Cal.cum dby; rw [if_pos h]; omega
theorem ref_gt {y m d : Int} (h : 2 < m) : -2 + 365 * (y - 1) + (y - 1) / 4 + (367 * m - 362) / 12 + d - (2 - Cal.lp (rep y)) = num y m d := by
  unfold num Cal.cum dby; rw [if_neg (by omega)]; omega
set_option maxHeartbeats 1000000 in
theorem julian_any (y m d : Int) (w : World) (y1 : -40000 ≤ y) (y2 : y ≤ 40000) (m1 : 1 ≤ m) (m2 : m ≤ 13) (d1 : -100000000 ≤ d) (d2 : d ≤ 100000000) :
    Calls Try.prog 43 #[.int .i64 y, .int .i64 m, .int .i64 d] w fun e w' => e = .returned (.int .i64 (num y m d)) ∧ w = w' := by
  by_cases hm : m ≤ 2
  · have hd : decide (2 < m) = false := by simp; omega
    have HF := Lib.hid (ref_le (y := y) (d := d) hm)
    go_enter Try.func43, Try.ntmps43
    go_wp2_with (go_at_call 26; refine (floor_any _ _ _ (by omega) (by omega) (by omega)).mono ?_; rintro e w' ⟨rfl, rfl⟩)
    go_ret
    exact ⟨ret_int HF.out, rfl⟩
  · have hm' : 2 < m := by omega
    have hd : decide (2 < m) = true := by simp; omega
    have HF := Lib.hid (ref_gt (y := y) (d := d) hm')
    have l := lp_rep y
    by_cases hl : y % 4 = 0
    · have hl' : (y % 4 == 0) = true := by simpa using hl
      have HL : Hid (Cal.lp (rep y) = 1) := by show _ = _; omega
      clear l hl
      go_enter Try.func43, Try.ntmps43
      go_wp2_with (first | (go_at_call 26; refine (floor_any _ _ _ (by omega) (by omega) (by omega)).mono ?_; rintro e w' ⟨rfl, rfl⟩) | (go_at_call 50; refine (mod_any _ _ _ (by omega) (by omega) (by omega) (by omega)).mono ?_; rintro e w' ⟨rfl, rfl⟩))
      go_ret
      exact ⟨ret_int (by rw [← HF.out, HL.out]; omega), rfl⟩
    · have hl' : (y % 4 == 0) = false := by simpa using hl
      have HL : Hid (Cal.lp (rep y) = 0) := by show _ = _; omega
      clear l hl
      go_enter Try.func43, Try.ntmps43
      go_wp2_with (first | (go_at_call 26; refine (floor_any _ _ _ (by omega) (by omega) (by omega)).mono ?_; rintro e w' ⟨rfl, rfl⟩) | (go_at_call 50; refine (mod_any _ _ _ (by omega) (by omega) (by omega) (by omega)).mono ?_; rintro e w' ⟨rfl, rfl⟩))
      go_ret
      exact ⟨ret_int (by rw [← HF.out, HL.out]; omega), rfl⟩
set_option maxHeartbeats 1000000 in
theorem fixed (y m d : Int) (w : World) (y1 : -40000 ≤ y) (y2 : y ≤ 40000) (m1 : 1 ≤ m) (m2 : m ≤ 12) (d1 : -100000000 ≤ d) (d2 : d ≤ 100000000) :
    Calls Try.prog 30 #[.int .i64 1, .int .i64 y, .int .i64 m, .int .i64 d] w fun e w' => e = .returned (.int .i64 (num y m d)) ∧ w = w' := by
  go_enter Try.func30, Try.ntmps30
  go_wp2_with (go_at_call 43; refine (julian_any _ _ _ _ y1 y2 m1 (by omega) d1 d2).mono ?_; rintro e w' ⟨rfl, rfl⟩)
  go_ret
  exact ⟨rfl, rfl⟩
theorem months (y : Int) (w : World) : Calls Try.prog 29 #[.int .i64 1, .int .i64 y] w fun e w' => e = .returned (.int .i64 12) ∧ w = w' := months12_any 1 y w rfl rfl rfl
set_option maxHeartbeats 1000000 in
theorem least (w : World) : Calls Try.prog 24 #[.int .i64 1] w fun e w' => e = .returned (.int .i64 1) ∧ w = w' := by
  go_enter Try.func24, Try.ntmps24
  go_wp2
  go_ret
  exact ⟨rfl, rfl⟩
set_option maxHeartbeats 1000000 in
theorem years (w : World) : Calls Try.prog 33 #[.int .i64 1] w fun e w' => e = .returned (.tuple #[.int .i64 1, .int .i64 20000]) ∧ w = w' := by
  go_enter Try.func33, Try.ntmps33
  go_wp2
  go_ret2
  exact ⟨rfl, rfl⟩
theorem num_1 (y : Int) : num y 1 1 = dby y + 1 := by unfold num; rw [Cal.cum_1]; omega
theorem num_bdw {y m d : Int} (y1 : -40000 ≤ y) (y2 : y ≤ 40000) (m1 : 1 ≤ m) (m2 : m ≤ 12) (d1 : 0 ≤ d) (d2 : d ≤ 1000) : -100000000 ≤ num y m d ∧ num y m d ≤ 100000000 := by
  have := dby_bdw y1 y2
  have := Cal.cum_bd (rep y) m1 (by omega)
  unfold num; omega
theorem lenOf_eq (y m : Int) : lenOf (fun y => dby y + 1) (fun y m => num y m 1) (fun _ => 12) y m = len y m := by
  unfold lenOf len
  by_cases h : m < 1 ∨ 12 < m
  · rw [if_pos h, Cal.dim_out _ h]
  · rw [if_neg h]
    have s := Cal.cum_succ (rep y) (m := m) (by omega) (by omega)
    by_cases h2 : m < 12
    · rw [if_pos h2]; simp only [num]; omega
    · rw [if_neg h2]
      obtain rfl : m = 12 := by omega
      have e : Cal.cum (rep y) (12 + 1) = Cal.cum (rep y) 13 := rfl
      have c := Cal.cum_13 (rep y)
      have d := dby_succ y
      simp only [num]; omega
theorem dom_eq (n : Int) : n - num (yr n) (mon n) 1 + 1 = dom n := by unfold num dom; omega
theorem mon_u (n m : Int) (a : 1 ≤ m) (b : m ≤ 12) (c : num (yr n) m 1 ≤ n) (d : m < 12 → n < num (yr n) (m + 1) 1) : m = mon n := by
  simp only [num] at c d
  have y2 := yr_hi n
  have c13 := Cal.cum_13 (rep (yr n))
  have es := dby_succ (yr n)
  refine (Cal.mo_unique a b (by omega) ?_).symm
  by_cases hm : m < 12
  · have := d hm; omega
  · obtain rfl : m = 12 := by omega
    have e : Cal.cum (rep (yr n)) (12 + 1) = Cal.cum (rep (yr n)) 13 := rfl
    omega
end Go.Proofs.Ythfmfbdnafbmdaa.Jul
