/- What the functions of package persian return: known, place, yearAt, Leap, length, inCycle, before, placeOf, Persian. -/
import Derived.Test.YtjngioanpphdkaaFloor
import Derived.Test.YtjngioanpphdkaaPerCal
import Derived.Test.YtjngioanpphdkaaDay
namespace Go.Proofs.Ytjngioanpphdkaa.Per
open Go.RowKit

def knB (y : Int) : Bool := decide (-10000 ≤ y ∧ y ≤ 20000 ∧ y ≠ 0)
theorem knB_iff {y : Int} : knB y = true ↔ (-10000 ≤ y ∧ y ≤ 20000 ∧ y ≠ 0) := by unfold knB; simp
set_option maxHeartbeats 400000 in
theorem known_any (y : Int) (w : World) :
    Calls Try.prog 26 #[.int .i64 y] w fun e w' => e = .returned (.bool (knB y)) ∧ w = w' := by
  go_enter Try.func26, Try.ntmps26
  go_wp2
  all_goals go_ret
  all_goals refine ⟨ret_bool ?_, rfl⟩
  all_goals rw [Bool.eq_iff_iff, knB_iff]
  all_goals simp
  all_goals omega
theorem known_is {y : Int} {b : Bool} (h : knB y = b) (w : World) : Calls Try.prog 26 #[.int .i64 y] w fun e w' => e = .returned (.bool b) ∧ w = w' := by
  subst h; exact known_any y w
set_option maxHeartbeats 400000 in
theorem place_any (y : Int) (w : World) (y1 : -40000 ≤ y) (y2 : y ≤ 40000) :
    Calls Try.prog 30 #[.int .i64 y] w fun e w' => e = .returned (.int .i64 (pl y)) ∧ w = w' := by
  have HP := Lib.hid (pl_cases y)
  go_enter Try.func30, Try.ntmps30
  go_wp2
  all_goals go_ret
  all_goals exact ⟨ret_int (by have := HP.out; omega), rfl⟩
set_option maxHeartbeats 400000 in
theorem yearAt_any (z : Int) (w : World) (z1 : -40000 ≤ z) (z2 : z ≤ 40000) :
    Calls Try.prog 18 #[.int .i64 z] w fun e w' => e = .returned (.int .i64 (yat z)) ∧ w = w' := by
  have HP := Lib.hid (yat_cases z)
  go_enter Try.func18, Try.ntmps18
  go_wp2
  all_goals go_ret
  all_goals exact ⟨ret_int (by have := HP.out; omega), rfl⟩
set_option maxHeartbeats 400000 in
theorem leap_no (y : Int) (w : World) (h : knB y = false) :
    Calls Try.prog 15 #[.int .i64 y] w fun e w' => e = .returned (.bool false) ∧ w = w' := by
  have H := Lib.hid h; clear h
  go_enter Try.func15, Try.ntmps15
  go_wp2_with (go_at_call 26; refine (known_is H.out _).mono ?_; rintro e w' ⟨rfl, rfl⟩)
  go_ret
  exact ⟨rfl, rfl⟩
set_option maxHeartbeats 400000 in
theorem leap_yes (y : Int) (w : World) (h : knB y = true) :
    Calls Try.prog 15 #[.int .i64 y] w fun e w' => e = .returned (.bool (lpB y)) ∧ w = w' := by
  obtain ⟨y1, y2, y3⟩ := knB_iff.1 h
  have H := Lib.hid h; clear h
  have g0 : 0 ≤ pl y % 2820 := by omega
  have g1 : pl y % 2820 < 2820 := by omega
  go_enter Try.func15, Try.ntmps15
  go_wp2_with (first | (go_at_call 26; refine (known_is H.out _).mono ?_; rintro e w' ⟨rfl, rfl⟩) | (go_at_call 30; refine (place_any _ _ (by omega) (by omega)).mono ?_; rintro e w' ⟨rfl, rfl⟩) | (go_at_call 33; refine (remainder_any _ _ _ (by omega) (by omega)).mono ?_; rintro e w' ⟨rfl, rfl⟩))
  go_ret
  exact ⟨rfl, rfl⟩
theorem len0 {y m : Int} (h : m < 1 ∨ 12 < m) : len y m = 0 := by have := len_cases y m; omega
theorem len31 {y m : Int} (h : y ≠ 0) (h1 : 1 ≤ m) (h2 : m ≤ 6) : len y m = 31 := by have := len_cases y m; omega
theorem len30 {y m : Int} (h : y ≠ 0) (h1 : 6 < m) (h2 : m < 12) : len y m = 30 := by have := len_cases y m; omega
theorem len_12 {y m : Int} (h0 : y ≠ 0) (h1 : m = 12) (h : lpB y = true) : len y m = 30 := by
  have := len_cases y m; have l := lp_cases y; rw [h] at l; simp at l; omega
theorem len_l {y m : Int} (h0 : y ≠ 0) (h1 : 12 ≤ m) (h2 : m ≤ 12) (h : m < 12 ∨ lpB y = true) : len y m = 30 := by
  rcases h with h | h
  · omega
  · exact len_12 h0 (by omega) h
theorem len_29 {y m : Int} (h0 : y ≠ 0) (h1 : m = 12) (h : lpB y = false) : len y m = 29 := by
  have := len_cases y m; have l := lp_cases y; rw [h] at l; simp at l; omega
set_option maxHeartbeats 400000 in
theorem length_any (y m : Int) (w : World) (h : knB y = true) :
    Calls Try.prog 27 #[.int .i64 y, .int .i64 m] w fun e w' => e = .returned (.int .i64 (len y m)) ∧ w = w' := by
  have ne := (knB_iff.1 h).2.2
  have NE := Lib.hid ne; clear ne
  have H := Lib.hid h; clear h
  go_enter Try.func27, Try.ntmps27
  go_wp2_with (go_at_call 15; refine (leap_yes _ _ H.out).mono ?_; rintro e w' ⟨rfl, rfl⟩)
  all_goals go_ret
  all_goals refine ⟨ret_int ?_, rfl⟩
  all_goals first
    | exact (len0 (by omega)).symm
    | exact (len31 NE.out (by omega) (by omega)).symm
    | exact (len30 NE.out (by omega) (by omega)).symm
    | exact (len_l NE.out (by omega) (by omega) (by assumption)).symm
    | exact (len_29 NE.out (by omega) (And.right (by assumption))).symm
/- the days of a cycle's first years -/
def inC (k : Int) : Int := 365 * k + (31 * (k - 1) + 128) / 128
theorem inC_bd {k : Int} (h1 : 0 ≤ k) (h2 : k ≤ 2820) : 0 ≤ inC k ∧ inC k ≤ 1100000 := by unfold inC; omega
set_option maxHeartbeats 400000 in
theorem inCycle_any (k : Int) (w : World) (h1 : 0 ≤ k) (h2 : k ≤ 2820) :
    Calls Try.prog 35 #[.int .i64 k] w fun e w' => e = .returned (.int .i64 (inC k)) ∧ w = w' := by
  go_enter Try.func35, Try.ntmps35
  go_wp2
  go_ret
  exact ⟨rfl, rfl⟩
theorem zdb_in (z : Int) : z / 2820 * 1029983 + inC (z % 2820) = zdb z - 399654 := by unfold zdb inC; omega
set_option maxHeartbeats 400000 in
theorem before_any (z : Int) (w : World) (z1 : -40000 ≤ z) (z2 : z ≤ 40000) :
    Calls Try.prog 29 #[.int .i64 z] w fun e w' => e = .returned (.int .i64 (zdb z - 399654)) ∧ w = w' := by
  have HB := Lib.hid (zdb_in z)
  have ib := inC_bd (k := z % 2820) (by omega) (by omega)
  go_enter Try.func29, Try.ntmps29
  go_wp2_with (first | (go_at_call 34; refine (quotient_any _ _ _ (by omega) (by omega) (by omega) (by omega)).mono ?_; rintro e w' ⟨rfl, rfl⟩) | (go_at_call 33; refine (remainder_any _ _ _ (by omega) (by omega)).mono ?_; rintro e w' ⟨rfl, rfl⟩) | (go_at_call 35; refine (inCycle_any _ _ (by omega) (by omega)).mono ?_; rintro e w' ⟨rfl, rfl⟩))
  go_ret
  exact ⟨ret_int HB.out, rfl⟩
end Go.Proofs.Ytjngioanpphdkaa.Per
