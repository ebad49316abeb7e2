/- What the reference's functions return for the Persian calendar (number 5): persian, Fixed, Months, least, years, next, begins, Length. -/
import Derived.Test.YtjngioanpphdkaaRefGen
import Derived.Test.YtjngioanpphdkaaPerCal
namespace Go.Proofs.Ytjngioanpphdkaa.Per
open Go.RowKit

theorem ref_eq (z d : Int) : 226895 + 1029983 * (z / 2820) + 365 * (z % 2820 + 474 - 1) + (31 * (z % 2820 + 474) - 5) / 128 + d = zdb z + d := by
  unfold zdb
  have e1 : 31 * (z % 2820 + 474) - 5 = 31 * (z % 2820) + 97 + 128 * 114 := by omega
  have e2 : 31 * (z % 2820 - 1) + 128 = 31 * (z % 2820) + 97 := by omega
  rw [e1, e2]; omega
theorem ref_lo {y m d : Int} (h : m ≤ 7) : zdb (pl y) + d + 31 * (m - 1) = num y m d := by
  have := cum_cases m; unfold num dby; omega
theorem ref_hi {y m d : Int} (h : 7 < m) : zdb (pl y) + d + 30 * (m - 1) + 6 = num y m d := by
  have := cum_cases m; unfold num dby; omega
set_option maxHeartbeats 1000000 in
theorem persian_any (y m d : Int) (w : World) (y1 : -40000 ≤ y) (y2 : y ≤ 40000) (m1 : 1 ≤ m) (m2 : m ≤ 13) (d1 : -100000000 ≤ d) (d2 : d ≤ 100000000) :
    Calls Try.prog 43 #[.int .i64 y, .int .i64 m, .int .i64 d] w fun e w' => e = .returned (.int .i64 (num y m d)) ∧ w = w' := by
  have HL := Lib.hid (@ref_lo y m d)
  have HH := Lib.hid (@ref_hi y m d)
  have HR := Lib.hid (ref_eq (pl y) d)
  rcases pl_cases y with ⟨hy, hp⟩ | ⟨hy, hp⟩
  all_goals
    rw [hp] at HL HH HR
    go_enter Try.func43, Try.ntmps43
    go_wp2_with (first | (go_at_call 21; refine (floor_any _ _ _ (by omega) (by omega) (by omega)).mono ?_; rintro e w' ⟨rfl, rfl⟩) | (go_at_call 46; refine (mod_any _ _ _ (by omega) (by omega) (by omega) (by omega)).mono ?_; rintro e w' ⟨rfl, rfl⟩))
    all_goals go_ret
    all_goals first
      | exact ⟨ret_int (by rw [HR.out]; exact HL.out (by omega)), rfl⟩
      | exact ⟨ret_int (by rw [HR.out]; exact HH.out (by omega)), rfl⟩
set_option maxHeartbeats 1000000 in
theorem fixed (y m d : Int) (w : World) (y1 : -40000 ≤ y) (y2 : y ≤ 40000) (m1 : 1 ≤ m) (m2 : m ≤ 12) (d1 : -100000000 ≤ d) (d2 : d ≤ 100000000) :
    Calls Try.prog 25 #[.int .i64 5, .int .i64 y, .int .i64 m, .int .i64 d] w fun e w' => e = .returned (.int .i64 (num y m d)) ∧ w = w' := by
  go_enter Try.func25, Try.ntmps25
  go_wp2_with (go_at_call 43; refine (persian_any _ _ _ _ y1 y2 m1 (by omega) d1 d2).mono ?_; rintro e w' ⟨rfl, rfl⟩)
  go_ret
  exact ⟨rfl, rfl⟩
theorem months (y : Int) (w : World) : Calls Try.prog 24 #[.int .i64 5, .int .i64 y] w fun e w' => e = .returned (.int .i64 12) ∧ w = w' := months12_any 5 y w rfl rfl rfl
set_option maxHeartbeats 1000000 in
theorem least (w : World) : Calls Try.prog 19 #[.int .i64 5] w fun e w' => e = .returned (.int .i64 (-800)) ∧ w = w' := by
  go_enter Try.func19, Try.ntmps19
  go_wp2
  go_ret
  exact ⟨rfl, rfl⟩
set_option maxHeartbeats 1000000 in
theorem years (w : World) : Calls Try.prog 31 #[.int .i64 5] w fun e w' => e = .returned (.tuple #[.int .i64 (-10000), .int .i64 20000]) ∧ w = w' := by
  go_enter Try.func31, Try.ntmps31
  go_wp2
  go_ret2
  exact ⟨rfl, rfl⟩
set_option maxHeartbeats 1000000 in
theorem refnext (y : Int) (w : World) (y1 : -40000 ≤ y) (y2 : y ≤ 40000) :
    Calls Try.prog 20 #[.int .i64 5, .int .i64 y] w fun e w' => e = .returned (.int .i64 (nx y)) ∧ w = w' := by
  by_cases h : y = -1
  · subst h
    go_enter Try.func20, Try.ntmps20
    go_wp2
    go_ret
    exact ⟨rfl, rfl⟩
  · have HN : Hid (y + 1 = nx y) := by have := nx_cases y; show _ = _; omega
    have d : (y == -1) = false := by simpa using h
    clear h
    go_enter Try.func20, Try.ntmps20
    go_wp2
    go_ret
    exact ⟨ret_int HN.out, rfl⟩
theorem num_1 (y : Int) : num y 1 1 = dby y + 1 := by unfold num; rw [cum_1]; omega
theorem num_bdw {y m d : Int} (y1 : -40000 ≤ y) (y2 : y ≤ 40000) (m1 : 1 ≤ m) (m2 : m ≤ 12) (d1 : 0 ≤ d) (d2 : d ≤ 1000) : -100000000 ≤ num y m d ∧ num y m d ≤ 100000000 := by
  have := dby_bdw y1 y2
  have := cum_bd m1 m2
  unfold num; omega
set_option maxHeartbeats 1000000 in
theorem begins_any (y : Int) (w : World) (y1 : -40000 ≤ y) (y2 : y ≤ 40000) :
    Calls Try.prog 22 #[.int .i64 5, .int .i64 y] w fun e w' => e = .returned (.int .i64 (dby y + 1)) ∧ w = w' := by
  have HE := Lib.hid (num_1 y)
  go_enter Try.func22, Try.ntmps22
  go_wp2_with (go_at_call 25; refine (fixed _ _ _ _ y1 y2 (by omega) (by omega) (by omega) (by omega)).mono ?_; rintro e w' ⟨rfl, rfl⟩)
  go_ret
  exact ⟨ret_int HE.out, rfl⟩
theorem len_no {y m : Int} (h : m < 1 ∨ 12 < m) : len y m = 0 := by have := len_cases y m; omega
theorem len_in {y m : Int} (h : y ≠ 0) (h1 : 1 ≤ m) (h2 : m < 12) : num y (m + 1) 1 - num y m 1 = len y m := by
  have := cum_succ h h1 h2; unfold num; omega
theorem len_end {y : Int} (h : y ≠ 0) : dby (nx y) + 1 - num y 12 1 = len y 12 := by
  have := dby_nx y; have := cum_12; have := len_cases y 12; unfold num; omega
set_option maxHeartbeats 1000000 in
theorem reflength (y m : Int) (y1 : -39999 ≤ y ∧ y ≠ 0) (y2 : y < 39999) : Gives 14 #[.int .i64 5, .int .i64 y, .int .i64 m] (len y m) := by
  intro w
  obtain ⟨y1, y0⟩ := y1
  have nc := nx_cases y
  by_cases m1 : m < 1
  · have HL := Lib.hid (len_no (y := y) (Or.inl m1))
    go_enter Try.func14, Try.ntmps14
    go_wp2
    go_ret
    exact ⟨ret_int HL.out.symm, rfl⟩
  · have d1 : decide (m < 1) = false := by simp; omega
    by_cases m2 : 12 < m
    · have HL := Lib.hid (len_no (y := y) (Or.inr m2))
      go_enter Try.func14, Try.ntmps14
      go_wp2_with (go_at_call 24; refine (months _ _).mono ?_; rintro e w' ⟨rfl, rfl⟩)
      go_ret
      exact ⟨ret_int HL.out.symm, rfl⟩
    · have d2 : decide (12 < m) = false := by simp; omega
      have f := num_bdw (y := y) (m := m) (d := 1) (by omega) (by omega) (by omega) (by omega) (by omega) (by omega)
      by_cases m3 : m < 12
      · have f' := num_bdw (y := y) (m := m + 1) (d := 1) (by omega) (by omega) (by omega) (by omega) (by omega) (by omega)
        have HL := Lib.hid (len_in y0 (m := m) (by omega) m3)
        clear y0 nc
        go_enter Try.func14, Try.ntmps14
        go_wp2_with (first | (go_at_call 24; refine (months _ _).mono ?_; rintro e w' ⟨rfl, rfl⟩) | (go_at_call 25; refine (fixed _ _ _ _ (by omega) (by omega) (by omega) (by omega) (by omega) (by omega)).mono ?_; rintro e w' ⟨rfl, rfl⟩))
        go_ret
        exact ⟨ret_int HL.out, rfl⟩
      · obtain rfl : m = 12 := by omega
        have HL := Lib.hid (len_end y0)
        have b := dby_bdw (a := nx y) (by omega) (by omega)
        have n1 : -40000 ≤ nx y := by omega
        have n2 : nx y ≤ 40000 := by omega
        clear y0 nc
        go_enter Try.func14, Try.ntmps14
        go_wp2_with (first | (go_at_call 24; refine (months _ _).mono ?_; rintro e w' ⟨rfl, rfl⟩) | (go_at_call 25; refine (fixed _ _ _ _ (by omega) (by omega) (by omega) (by omega) (by omega) (by omega)).mono ?_; rintro e w' ⟨rfl, rfl⟩) | (go_at_call 20; refine (refnext _ _ (by omega) (by omega)).mono ?_; rintro e w' ⟨rfl, rfl⟩) | (go_at_call 22; refine (begins_any _ _ n1 n2).mono ?_; rintro e w' ⟨rfl, rfl⟩))
        go_ret
        exact ⟨ret_int HL.out, rfl⟩
end Go.Proofs.Ytjngioanpphdkaa.Per
