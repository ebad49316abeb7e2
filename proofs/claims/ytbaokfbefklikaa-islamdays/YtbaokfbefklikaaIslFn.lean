/- What the functions of package islam return: known, Leap, length, beforeYear, yearOf, Islamic. -/
import Derived.Test.YtbaokfbefklikaaFloor
import Derived.Test.YtbaokfbefklikaaIslCal
import Derived.Test.YtbaokfbefklikaaDay
namespace Go.Proofs.Ytbaokfbefklikaa.Isl
open Go.RowKit

def knB (y : Int) : Bool := decide (-10000 ≤ y ∧ y ≤ 20000)
theorem knB_iff {y : Int} : knB y = true ↔ (-10000 ≤ y ∧ y ≤ 20000) := by unfold knB; simp
set_option maxHeartbeats 400000 in
theorem known_any (y : Int) (w : World) :
    Calls Try.prog 27 #[.int .i64 y] w fun e w' => e = .returned (.bool (knB y)) ∧ w = w' := by
  go_enter Try.func27, Try.ntmps27
  go_wp2
  all_goals go_ret
  all_goals refine ⟨ret_bool ?_, rfl⟩
  all_goals rw [Bool.eq_iff_iff, knB_iff]
  all_goals simp
  all_goals omega
theorem known_is {y : Int} {b : Bool} (h : knB y = b) (w : World) : Calls Try.prog 27 #[.int .i64 y] w fun e w' => e = .returned (.bool b) ∧ w = w' := by
  subst h; exact known_any y w
set_option maxHeartbeats 400000 in
theorem leap_no (y : Int) (w : World) (h : knB y = false) :
    Calls Try.prog 15 #[.int .i64 y] w fun e w' => e = .returned (.bool false) ∧ w = w' := by
  have H := Lib.hid h; clear h
  go_enter Try.func15, Try.ntmps15
  go_wp2_with (go_at_call 27; refine (known_is H.out _).mono ?_; rintro e w' ⟨rfl, rfl⟩)
  go_ret
  exact ⟨rfl, rfl⟩
set_option maxHeartbeats 400000 in
theorem leap_yes (y : Int) (w : World) (h : knB y = true) :
    Calls Try.prog 15 #[.int .i64 y] w fun e w' => e = .returned (.bool (lpB y)) ∧ w = w' := by
  obtain ⟨y1, y2⟩ := knB_iff.1 h
  have H := Lib.hid h; clear h
  go_enter Try.func15, Try.ntmps15
  go_wp2_with (first | (go_at_call 27; refine (known_is H.out _).mono ?_; rintro e w' ⟨rfl, rfl⟩) | (go_at_call 31; refine (remainder_any _ _ _ (by omega) (by omega)).mono ?_; rintro e w' ⟨rfl, rfl⟩))
  go_ret
  exact ⟨rfl, rfl⟩
theorem len0 {y m : Int} (h : m < 1 ∨ 12 < m) : len y m = 0 := by have := len_cases y m; omega
theorem len_odd {y m : Int} (h1 : 1 ≤ m) (h2 : m ≤ 12) (h : m % 2 = 1) : len y m = 30 := by have := len_cases y m; omega
theorem len_12 {y m : Int} (h1 : m = 12) (h : lpB y = true) : len y m = 30 := by
  have := len_cases y m; have l := lp_cases y; rw [h] at l; simp at l; omega
theorem len_29 {y m : Int} (h1 : 1 ≤ m) (h2 : m ≤ 12) (h3 : m % 2 = 0) (h : m = 12 → lpB y = false) : len y m = 29 := by
  have := len_cases y m
  have l := lp_cases y
  by_cases e : m = 12
  · rw [h e] at l; simp at l; omega
  · omega
set_option maxHeartbeats 400000 in
theorem length_any (y m : Int) (w : World) (h : knB y = true) :
    Calls Try.prog 19 #[.int .i64 y, .int .i64 m] w fun e w' => e = .returned (.int .i64 (len y m)) ∧ w = w' := by
  have H := Lib.hid h; clear h
  go_enter Try.func19, Try.ntmps19
  go_wp2_with (go_at_call 15; refine (leap_yes _ _ H.out).mono ?_; rintro e w' ⟨rfl, rfl⟩)
  all_goals go_ret
  all_goals refine ⟨ret_int ?_, rfl⟩
  all_goals first
    | exact (len0 (by omega)).symm
    | exact (len_odd (by omega) (by omega) (by omega)).symm
    | exact (len_12 (by omega) (by assumption)).symm
    | exact (len_29 (by omega) (by omega) (by omega) (fun _ => by assumption)).symm
    | exact (len_29 (by omega) (by omega) (by omega) (fun e => absurd e (by assumption))).symm
theorem before_eq (y : Int) : ((y - 1) * 10631 + 14) / 30 = dby y - 227014 := by unfold dby; omega
theorem year_eq (n : Int) : ((n - 227015) * 30 + 30 - 1 - 14) / 10631 + 1 = yr n := by unfold yr; omega
set_option maxHeartbeats 400000 in
theorem before_any (y : Int) (w : World) (y1 : -40000 ≤ y) (y2 : y ≤ 40000) :
    Calls Try.prog 18 #[.int .i64 y] w fun e w' => e = .returned (.int .i64 (dby y - 227014)) ∧ w = w' := by
  have HB := Lib.hid (before_eq y)
  go_enter Try.func18, Try.ntmps18
  go_wp2_with (go_at_call 32; refine (quotient_any _ _ _ (by omega) (by omega) (by omega) (by omega)).mono ?_; rintro e w' ⟨rfl, rfl⟩)
  go_ret
  exact ⟨ret_int HB.out, rfl⟩
set_option maxHeartbeats 400000 in
theorem yearOf_any (n : Int) (w : World) (n1 : 1 ≤ n) (n2 : n ≤ 3652059) :
    Calls Try.prog 17 #[.int .i64 (n - 227015)] w fun e w' => e = .returned (.int .i64 (yr n)) ∧ w = w' := by
  have HY := Lib.hid (year_eq n)
  go_enter Try.func17, Try.ntmps17
  go_wp2_with (go_at_call 32; refine (quotient_any _ _ _ (by omega) (by omega) (by omega) (by omega)).mono ?_; rintro e w' ⟨rfl, rfl⟩)
  go_ret
  exact ⟨ret_int HY.out, rfl⟩
set_option maxHeartbeats 1000000 in
theorem date_no (n : Int) (w : World) (h : Cal.dayB n = false) :
    Calls Try.prog 9 #[.int .i64 n] w fun e w' => e = .returned (.tuple #[.agg #[.int .i64 0, .int .i64 0, .int .i64 0], .int .i64 2]) ∧ Gr w w' := by
  have H := Lib.hid h; clear h
  go_enter Try.func9, Try.ntmps9
  go_wp2_with fail
  refine (of_any _ _).mono ?_
  rintro e w' ⟨rfl, rfl⟩
  rw [H.out]
  go_wp2
  exact bodyPost_ret (v := .tuple #[.agg #[.int .i64 0, .int .i64 0, .int .i64 0], .int .i64 2]) (by simp [results, Try.results9, go_sem]) rfl ⟨rfl, (Gr.refl _).alloc _ _⟩
set_option maxHeartbeats 1000000 in
theorem date_yes (n : Int) (w : World) (h : Cal.dayB n = true) :
    Calls Try.prog 9 #[.int .i64 n] w fun e w' => e = .returned (.tuple #[.agg #[.int .i64 (yr n), .int .i64 (mon n), .int .i64 (dom n)], .int .i64 0]) ∧ Gr w w' := by
  obtain ⟨n1, n2⟩ := Cal.dayB_iff.1 h
  have yb := yr_bd n1 n2
  have lb := dby_bdw (a := yr n) (by omega) (by omega)
  have y1 := yr_lo n
  have y2 := yr_hi n
  have es := dby_succ (yr n)
  have l01 := lp_01 (yr n)
  have HU : Hid (∀ m, 1 ≤ m → m ≤ 12 → cum m ≤ n - 1 - dby (yr n) → n - 1 - dby (yr n) < cum m + len (yr n) m → mon n = m ∧ dom n = n - 1 - dby (yr n) - cum m + 1) := by
    intro m m1 m2 a b
    have e : mon n = m := mo_unique m1 m2 a b
    exact ⟨e, by unfold dom; rw [e]; omega⟩
  have r1 : 0 ≤ n - 1 - dby (yr n) := by omega
  have r2 : n - 1 - dby (yr n) < 354 + lp (yr n) := by omega
  have HK : Hid (knB (yr n) = true) := knB_iff.2 (by omega)
  have HR : Hid (n - 227015 - (dby (yr n) - 227014) = n - 1 - dby (yr n)) := by show _ = _; omega
  clear es
  have H := Lib.hid h; clear h
  go_enter Try.func9, Try.ntmps9
  go_wp2_with fail
  refine (of_any _ _).mono ?_
  rintro e w' ⟨rfl, rfl⟩
  rw [H.out]
  go_wp2_with fail
  refine (yearOf_any _ _ n1 n2).mono ?_
  rintro e w' ⟨rfl, rfl⟩
  go_wp2_with fail
  refine (before_any _ _ (by omega) (by omega)).mono ?_
  rintro e w' ⟨rfl, rfl⟩
  go_wp2_with fail
  rw [HR.out]
  go_loop [4, 6] (fun t i => ∃ k : Int, 1 ≤ k ∧ k ≤ 12 ∧ i = .int .i64 k ∧ cum k ≤ n - 1 - dby (yr n) ∧ t = .int .i64 (n - 1 - dby (yr n) - cum k)) (fun _ i => (12 - intOf i).toNat)
  case atStart => exact ⟨1, by omega, by omega, rfl, by rw [cum_1]; omega, by rw [cum_1]; simp⟩
  case round =>
    obtain ⟨k, k1, k2, rfl, hlo, rfl⟩ := hrel
    have kb := cum_bd k1 k2
    have ld := len_bd (yr n) k
    by_cases hlt : len (yr n) k ≤ n - 1 - dby (yr n) - cum k
    · have k3 : k < 12 := by
        by_cases e : k = 12
        · subst e; have := cum_12; have := len_cases (yr n) 12; omega
        · omega
      have HS := Lib.hid (cum_succ (yr n) k1 k3)
      go_wp2_with (go_at_call 19; refine (length_any _ _ _ HK.out).mono ?_; rintro e w' ⟨rfl, rfl⟩)
      go_round
      case rel => exact ⟨k + 1, by omega, by omega, rfl, by rw [HS.out]; omega, by rw [HS.out]; go_num⟩
      case measure => simp [intOf]; omega
    · obtain ⟨u1, u2⟩ := HU.out k k1 k2 hlo (by omega)
      have U1 := Lib.hid u1; have U2 := Lib.hid u2
      clear u1 u2
      go_wp2_with (go_at_call 19; refine (length_any _ _ _ HK.out).mono ?_; rintro e w' ⟨rfl, rfl⟩)
      rw [U1.out, U2.out]
      exact bodyPost_ret (v := .tuple #[.agg #[.int .i64 (yr n), .int .i64 k, .int .i64 (n - 1 - dby (yr n) - cum k + 1)], .int .i64 0]) (by simp [results, Try.results9, go_sem]) rfl ⟨rfl, (Gr.refl _).alloc _ _⟩
end Go.Proofs.Ytbaokfbefklikaa.Isl
