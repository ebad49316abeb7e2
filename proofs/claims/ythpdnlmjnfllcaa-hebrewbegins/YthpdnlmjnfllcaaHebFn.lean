/- What the functions of package hebrew return: known, Leap, lastMonth, next, elapsed, delay, begin, days, short, Length, Begins, yearOf. -/
import Derived.Test.YthpdnlmjnfllcaaFloor
import Derived.Test.YthpdnlmjnfllcaaHebMon
import Derived.Test.YthpdnlmjnfllcaaLeaf
namespace Go.Proofs.Ythpdnlmjnfllcaa.Heb
open Go.RowKit

def knB (y : Int) : Bool := decide (1 ≤ y ∧ y ≤ 20000)
theorem knB_iff {y : Int} : knB y = true ↔ (1 ≤ y ∧ y ≤ 20000) := by unfold knB; simp
set_option maxHeartbeats 400000 in
theorem known_any (y : Int) (w : World) :
    Calls Try.prog 33 #[.int .i64 y] w fun e w' => e = .returned (.bool (knB y)) ∧ w = w' := by
  go_enter Try.func33, Try.ntmps33
  go_wp2
  all_goals go_ret
  all_goals refine ⟨ret_bool ?_, rfl⟩
  all_goals rw [Bool.eq_iff_iff, knB_iff]
  all_goals simp
  all_goals omega
theorem known_is {y : Int} {b : Bool} (h : knB y = b) (w : World) : Calls Try.prog 33 #[.int .i64 y] w fun e w' => e = .returned (.bool b) ∧ w = w' := by
  subst h; exact known_any y w
set_option maxHeartbeats 400000 in
theorem leap_no (y : Int) (w : World) (h : knB y = false) :
    Calls Try.prog 17 #[.int .i64 y] w fun e w' => e = .returned (.bool false) ∧ w = w' := by
  have H := Lib.hid h; clear h
  go_enter Try.func17, Try.ntmps17
  go_wp2_with (go_at_call 33; refine (known_is H.out _).mono ?_; rintro e w' ⟨rfl, rfl⟩)
  go_ret
  exact ⟨rfl, rfl⟩
set_option maxHeartbeats 400000 in
theorem leap_yes (y : Int) (w : World) (h : knB y = true) :
    Calls Try.prog 17 #[.int .i64 y] w fun e w' => e = .returned (.bool (lpB y)) ∧ w = w' := by
  obtain ⟨y1, y2⟩ := knB_iff.1 h
  have H := Lib.hid h; clear h
  go_enter Try.func17, Try.ntmps17
  go_wp2_with (go_at_call 33; refine (known_is H.out _).mono ?_; rintro e w' ⟨rfl, rfl⟩)
  go_ret
  exact ⟨rfl, rfl⟩
theorem leap_is {y : Int} {b : Bool} (h : knB y = true) (hb : lpB y = b) (w : World) : Calls Try.prog 17 #[.int .i64 y] w fun e w' => e = .returned (.bool b) ∧ w = w' := by
  subst hb; exact leap_yes y w h
set_option maxHeartbeats 400000 in
theorem last_any (y : Int) (w : World) (h : knB y = true) :
    Calls Try.prog 34 #[.int .i64 y] w fun e w' => e = .returned (.int .i64 (mc y)) ∧ w = w' := by
  have H := Lib.hid h; clear h
  rcases mc_cases y with ⟨l, e⟩ | ⟨l, e⟩
  all_goals
    have HL := Lib.hid l; have HE := Lib.hid e; clear l e
    go_enter Try.func34, Try.ntmps34
    go_wp2_with (go_at_call 17; refine (leap_is H.out HL.out _).mono ?_; rintro e w' ⟨rfl, rfl⟩)
    go_ret
    exact ⟨ret_int HE.out.symm, rfl⟩
set_option maxHeartbeats 400000 in
theorem next_any (y m : Int) (w : World) (h : knB y = true) (m1 : 1 ≤ m) (m2 : m ≤ 13) :
    Calls Try.prog 25 #[.int .i64 y, .int .i64 m] w fun e w' => e = .returned (.int .i64 (nm y m)) ∧ w = w' := by
  have H := Lib.hid h; clear h
  rcases nm_cases y m with ⟨a, e⟩ | ⟨a, e⟩
  · have d : (m == mc y) = true := by simpa using a
    have HE := Lib.hid e; clear a e
    go_enter Try.func25, Try.ntmps25
    go_wp2_with (go_at_call 34; refine (last_any _ _ H.out).mono ?_; rintro e w' ⟨rfl, rfl⟩)
    go_ret
    exact ⟨ret_int HE.out.symm, rfl⟩
  · have d : (m == mc y) = false := by simpa using a
    have HE := Lib.hid e; clear a e
    go_enter Try.func25, Try.ntmps25
    go_wp2_with (go_at_call 34; refine (last_any _ _ H.out).mono ?_; rintro e w' ⟨rfl, rfl⟩)
    go_ret
    exact ⟨ret_int HE.out.symm, rfl⟩
set_option maxHeartbeats 400000 in
theorem elapsed_any (y : Int) (w : World) (y1 : -5 ≤ y) (y2 : y ≤ 40000) :
    Calls Try.prog 44 #[.int .i64 y] w fun e w' => e = .returned (.int .i64 (el y)) ∧ w = w' := by
  obtain ⟨a, b⟩ := mof_bd y1 y2
  have c := dof_bd a b
  unfold mof dof at *
  have HE := Lib.hid (el_cases y)
  go_enter Try.func44, Try.ntmps44
  go_wp2_with (first | (go_at_call 49; refine (quotient_any _ _ _ (by omega) (by omega) (by omega) (by omega)).mono ?_; rintro e w' ⟨rfl, rfl⟩) | (go_at_call 50; refine (remainder_any _ _ _ (by omega) (by omega)).mono ?_; rintro e w' ⟨rfl, rfl⟩))
  all_goals go_ret
  all_goals exact ⟨ret_int (by have := HE.out; unfold mof dof at this; omega), rfl⟩
def dl (y : Int) : Int := if el (y + 1) - el y = 356 then 2 else if el y - el (y - 1) = 382 then 1 else 0
theorem dl_cases (y : Int) : (el (y + 1) - el y = 356 ∧ dl y = 2) ∨ (el (y + 1) - el y ≠ 356 ∧ el y - el (y - 1) = 382 ∧ dl y = 1) ∨ (el (y + 1) - el y ≠ 356 ∧ el y - el (y - 1) ≠ 382 ∧ dl y = 0) := by
  unfold dl; split
  · omega
  · split <;> omega
theorem dl_ny (y : Int) : -1373427 + el y + dl y = ny y := by have := dl_cases y; have := ny_cases y; omega
set_option maxHeartbeats 400000 in
theorem delay_any (y : Int) (w : World) (y1 : 0 ≤ y) (y2 : y ≤ 30000) :
    Calls Try.prog 45 #[.int .i64 y] w fun e w' => e = .returned (.int .i64 (dl y)) ∧ w = w' := by
  have a := el_bd (y := y) (by omega) (by omega)
  have b := el_bd (y := y + 1) (by omega) (by omega)
  have c := el_bd (y := y - 1) (by omega) (by omega)
  rcases dl_cases y with ⟨p, e⟩ | ⟨p, q, e⟩ | ⟨p, q, e⟩
  · have d1 : (el (y + 1) - el y == 356) = true := by simpa using p
    have HE := Lib.hid e; clear p e
    go_enter Try.func45, Try.ntmps45
    go_wp2_with (go_at_call 44; refine (elapsed_any _ _ (by omega) (by omega)).mono ?_; rintro e w' ⟨rfl, rfl⟩)
    go_ret
    exact ⟨ret_int HE.out.symm, rfl⟩
  · have d1 : (el (y + 1) - el y == 356) = false := by simpa using p
    have d2 : (el y - el (y - 1) == 382) = true := by simpa using q
    have HE := Lib.hid e; clear p q e
    go_enter Try.func45, Try.ntmps45
    go_wp2_with (go_at_call 44; refine (elapsed_any _ _ (by omega) (by omega)).mono ?_; rintro e w' ⟨rfl, rfl⟩)
    go_ret
    exact ⟨ret_int HE.out.symm, rfl⟩
  · have d1 : (el (y + 1) - el y == 356) = false := by simpa using p
    have d2 : (el y - el (y - 1) == 382) = false := by simpa using q
    have HE := Lib.hid e; clear p q e
    go_enter Try.func45, Try.ntmps45
    go_wp2_with (go_at_call 44; refine (elapsed_any _ _ (by omega) (by omega)).mono ?_; rintro e w' ⟨rfl, rfl⟩)
    go_ret
    exact ⟨ret_int HE.out.symm, rfl⟩
set_option maxHeartbeats 400000 in
theorem begin_any (y : Int) (w : World) (y1 : 0 ≤ y) (y2 : y ≤ 30000) :
    Calls Try.prog 24 #[.int .i64 y] w fun e w' => e = .returned (.int .i64 (ny y)) ∧ w = w' := by
  have a := el_bd (y := y) (by omega) (by omega)
  have HN := Lib.hid (dl_ny y)
  have b := dl_cases y
  have b1 : 0 ≤ dl y := by omega
  have b2 : dl y ≤ 2 := by omega
  clear b
  go_enter Try.func24, Try.ntmps24
  go_wp2_with (first | (go_at_call 44; refine (elapsed_any _ _ (by omega) (by omega)).mono ?_; rintro e w' ⟨rfl, rfl⟩) | (go_at_call 45; refine (delay_any _ _ (by omega) (by omega)).mono ?_; rintro e w' ⟨rfl, rfl⟩))
  go_ret
  exact ⟨ret_int HN.out, rfl⟩
set_option maxHeartbeats 400000 in
theorem days_any (y : Int) (w : World) (y1 : 1 ≤ y) (y2 : y ≤ 20000) :
    Calls Try.prog 47 #[.int .i64 y] w fun e w' => e = .returned (.int .i64 (yl y)) ∧ w = w' := by
  have a := ny_bd (y := y) (by omega) (by omega)
  have b := ny_bd (y := y + 1) (by omega) (by omega)
  go_enter Try.func47, Try.ntmps47
  go_wp2_with (go_at_call 24; refine (begin_any _ _ (by omega) (by omega)).mono ?_; rintro e w' ⟨rfl, rfl⟩)
  go_ret
  exact ⟨rfl, rfl⟩
set_option maxHeartbeats 1000000 in
theorem short_any (y m : Int) (w : World) (h : knB y = true) (m1 : 1 ≤ m) (m2 : m ≤ mc y) :
    Calls Try.prog 35 #[.int .i64 y, .int .i64 m] w fun e w' => e = .returned (.bool (decide (hm y m = 29))) ∧ w = w' := by
  obtain ⟨y1, y2⟩ := knB_iff.1 h
  have H := Lib.hid h; clear h
  have b := mc_bd y
  have c : m = 1 ∨ m = 2 ∨ m = 3 ∨ m = 4 ∨ m = 5 ∨ m = 6 ∨ m = 7 ∨ m = 8 ∨ m = 9 ∨ m = 10 ∨ m = 11 ∨ m = 12 ∨ m = 13 := by omega
  have HC := Lib.hid (mc_cases y)
  clear m1 m2 b
  rcases c with rfl | rfl | rfl | rfl | rfl | rfl | rfl | rfl | rfl | rfl | rfl | rfl | rfl
  all_goals
    go_enter Try.func35, Try.ntmps35
    go_wp2_with (first | (go_at_call 17; refine (leap_yes _ _ H.out).mono ?_; rintro e w' ⟨rfl, rfl⟩) | (go_at_call 47; refine (days_any _ _ y1 y2).mono ?_; rintro e w' ⟨rfl, rfl⟩))
  all_goals go_ret
  all_goals refine ⟨ret_bool ?_, rfl⟩
  all_goals first
    | (simp [hm]; done)
    | (rcases HC.out with ⟨l, e⟩ | ⟨l, e⟩ <;> (simp [hm, l, e]; done))
    | (by_cases k : yl y = 385 <;> (simp [hm, h8, *]; done))
    | (by_cases k : yl y = 383 <;> (simp [hm, h9, *]; done))
theorem short_is {y m : Int} {b : Bool} (h : knB y = true) (m1 : 1 ≤ m) (m2 : m ≤ mc y) (hb : decide (hm y m = 29) = b) (w : World) : Calls Try.prog 35 #[.int .i64 y, .int .i64 m] w fun e w' => e = .returned (.bool b) ∧ w = w' := by
  subst hb; exact short_any y m w h m1 m2
set_option maxHeartbeats 400000 in
theorem length_no (y m : Int) (w : World) (h : len y m = 0) :
    Calls Try.prog 18 #[.int .i64 y, .int .i64 m] w fun e w' => e = .returned (.int .i64 0) ∧ w = w' := by
  have c : y < 1 ∨ 20000 < y ∨ m < 1 ∨ mc y < m := by have := len_cases y m; have := hm_bd y m; omega
  clear h
  cases hk : knB y
  · have H := Lib.hid hk; clear hk c
    go_enter Try.func18, Try.ntmps18
    go_wp2_with (go_at_call 33; refine (known_is H.out _).mono ?_; rintro e w' ⟨rfl, rfl⟩)
    go_ret
    exact ⟨rfl, rfl⟩
  · obtain ⟨k1, k2⟩ := knB_iff.1 hk
    have H := Lib.hid hk; clear hk
    by_cases m1 : m < 1
    · clear c
      go_enter Try.func18, Try.ntmps18
      go_wp2_with (go_at_call 33; refine (known_is H.out _).mono ?_; rintro e w' ⟨rfl, rfl⟩)
      go_ret
      exact ⟨rfl, rfl⟩
    · have d1 : decide (m < 1) = false := by simp; omega
      have m2 : mc y < m := by omega
      clear c
      go_enter Try.func18, Try.ntmps18
      go_wp2_with (first | (go_at_call 33; refine (known_is H.out _).mono ?_; rintro e w' ⟨rfl, rfl⟩) | (go_at_call 34; refine (last_any _ _ H.out).mono ?_; rintro e w' ⟨rfl, rfl⟩))
      go_ret
      exact ⟨rfl, rfl⟩
set_option maxHeartbeats 400000 in
theorem length_yes (y m : Int) (w : World) (h : knB y = true) (m1 : 1 ≤ m) (m2 : m ≤ mc y) :
    Calls Try.prog 18 #[.int .i64 y, .int .i64 m] w fun e w' => e = .returned (.int .i64 (hm y m)) ∧ w = w' := by
  have H := Lib.hid h; clear h
  have d1 : decide (m < 1) = false := by simp; omega
  have d2 : decide (mc y < m) = false := by simp; omega
  have b := hm_bd y m
  by_cases e : hm y m = 29
  · have hb : decide (hm y m = 29) = true := by simpa using e
    have HB := Lib.hid hb; have HE := Lib.hid e; clear hb e b
    go_enter Try.func18, Try.ntmps18
    go_wp2_with (first | (go_at_call 33; refine (known_is H.out _).mono ?_; rintro e w' ⟨rfl, rfl⟩) | (go_at_call 34; refine (last_any _ _ H.out).mono ?_; rintro e w' ⟨rfl, rfl⟩) | (go_at_call 35; refine (short_is H.out m1 m2 HB.out _).mono ?_; rintro e w' ⟨rfl, rfl⟩))
    go_ret
    exact ⟨ret_int HE.out.symm, rfl⟩
  · have hb : decide (hm y m = 29) = false := by simpa using e
    have e' : hm y m = 30 := by omega
    have HB := Lib.hid hb; have HE := Lib.hid e'; clear hb e e' b
    go_enter Try.func18, Try.ntmps18
    go_wp2_with (first | (go_at_call 33; refine (known_is H.out _).mono ?_; rintro e w' ⟨rfl, rfl⟩) | (go_at_call 34; refine (last_any _ _ H.out).mono ?_; rintro e w' ⟨rfl, rfl⟩) | (go_at_call 35; refine (short_is H.out m1 m2 HB.out _).mono ?_; rintro e w' ⟨rfl, rfl⟩))
    go_ret
    exact ⟨ret_int HE.out.symm, rfl⟩
theorem length_any (y m : Int) (w : World) :
    Calls Try.prog 18 #[.int .i64 y, .int .i64 m] w fun e w' => e = .returned (.int .i64 (len y m)) ∧ w = w' := by
  rcases len_cases y m with ⟨_, e⟩ | ⟨y1, y2, m1, m2, e⟩
  · rw [e]; exact length_no y m w e
  · rw [e]; exact length_yes y m w (knB_iff.2 ⟨y1, y2⟩) m1 m2
set_option maxHeartbeats 400000 in
theorem begins_no (y : Int) (w : World) (h : knB y = false) :
    Calls Try.prog 16 #[.int .i64 y] w fun e w' => e = .returned (.tuple #[.int .i64 0, .int .i64 2]) ∧ w = w' := by
  have H := Lib.hid h; clear h
  go_enter Try.func16, Try.ntmps16
  go_wp2_with (go_at_call 33; refine (known_is H.out _).mono ?_; rintro e w' ⟨rfl, rfl⟩)
  go_ret2
  exact ⟨rfl, rfl⟩
set_option maxHeartbeats 400000 in
theorem begins_yes (y : Int) (w : World) (h : knB y = true) :
    Calls Try.prog 16 #[.int .i64 y] w fun e w' => e = .returned (.tuple #[.int .i64 (ny y), .int .i64 0]) ∧ w = w' := by
  obtain ⟨y1, y2⟩ := knB_iff.1 h
  have H := Lib.hid h; clear h
  go_enter Try.func16, Try.ntmps16
  go_wp2_with (first | (go_at_call 33; refine (known_is H.out _).mono ?_; rintro e w' ⟨rfl, rfl⟩) | (go_at_call 24; refine (begin_any _ _ (by omega) (by omega)).mono ?_; rintro e w' ⟨rfl, rfl⟩))
  go_ret2
  exact ⟨rfl, rfl⟩
theorem guess_bd {n : Int} (h1 : 1 ≤ n) (h2 : n ≤ 3652059) : 1 ≤ guess n ∧ guess n ≤ 20000 := by unfold guess; omega
set_option maxHeartbeats 400000 in
theorem yearOf_any (n : Int) (w : World) (h1 : 1 ≤ n) (h2 : n ≤ 3652059) :
    Calls Try.prog 23 #[.int .i64 n] w fun e w' => e = .returned (.int .i64 (yr n)) ∧ w = w' := by
  have g := guess_bd h1 h2
  have HG : Hid (guess n = (n + 1373427 - 4) * 98496 / 35975351 + 1) := Lib.hid rfl
  have g2 := g
  unfold guess at g
  by_cases hc : ny (guess n + 1) ≤ n
  · have HY : Hid (yr n = guess n + 1) := by show _ = _; unfold yr; rw [if_pos hc]
    unfold guess at hc
    go_enter Try.func23, Try.ntmps23
    go_wp2_with (go_at_call 24; refine (begin_any _ _ (by omega) (by omega)).mono ?_; rintro e w' ⟨rfl, rfl⟩)
    go_ret
    exact ⟨ret_int (by rw [HY.out, HG.out]), rfl⟩
  · have HY : Hid (yr n = guess n) := by show _ = _; unfold yr; rw [if_neg hc]
    have d : decide (ny (guess n + 1) ≤ n) = false := by simp; omega
    clear hc
    unfold guess at d
    go_enter Try.func23, Try.ntmps23
    go_wp2_with (go_at_call 24; refine (begin_any _ _ (by omega) (by omega)).mono ?_; rintro e w' ⟨rfl, rfl⟩)
    go_ret
    exact ⟨ret_int (by rw [HY.out, HG.out]), rfl⟩
end Go.Proofs.Ythpdnlmjnfllcaa.Heb
