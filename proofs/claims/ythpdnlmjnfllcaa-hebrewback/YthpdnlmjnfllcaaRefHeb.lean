/- What the reference's functions return for the Hebrew calendar (number 3): hebrewLeap, elapsed, newYear, hebrewMonth, hebrew, Fixed, Months, least, years, begins, Length. -/
import Derived.Test.YthpdnlmjnfllcaaRefGen
import Derived.Test.YthpdnlmjnfllcaaHebMon
namespace Go.Proofs.Ythpdnlmjnfllcaa.Heb
open Go.RowKit

set_option maxHeartbeats 400000 in
theorem refleap_any (y : Int) (w : World) (y1 : -40000 ≤ y) (y2 : y ≤ 40000) :
    Calls Try.prog 43 #[.int .i64 y] w fun e w' => e = .returned (.bool (lpB y)) ∧ w = w' := by
  go_enter Try.func43, Try.ntmps43
  go_wp2_with (go_at_call 21; refine (mod_any _ _ _ (by omega) (by omega) (by omega) (by omega)).mono ?_; rintro e w' ⟨rfl, rfl⟩)
  go_ret
  exact ⟨rfl, rfl⟩
theorem refleap_is {y : Int} {b : Bool} (hb : lpB y = b) (y1 : -40000 ≤ y) (y2 : y ≤ 40000) (w : World) : Calls Try.prog 43 #[.int .i64 y] w fun e w' => e = .returned (.bool b) ∧ w = w' := by
  subst hb; exact refleap_any y w y1 y2
theorem mof_eq (y : Int) : (235 * y - 234) / 19 = mof y := by unfold mof; rw [show 235 * (y - 1) + 1 = 235 * y - 234 by omega]
set_option maxHeartbeats 400000 in
theorem refelapsed_any (y : Int) (w : World) (y1 : -5 ≤ y) (y2 : y ≤ 40000) :
    Calls Try.prog 51 #[.int .i64 y] w fun e w' => e = .returned (.int .i64 (el y)) ∧ w = w' := by
  obtain ⟨a, b⟩ := mof_bd y1 y2
  have c := dof_bd a b
  have HE := Lib.hid (el_cases y)
  rw [← mof_eq] at a b c HE
  unfold dof at c HE
  go_enter Try.func51, Try.ntmps51
  go_wp2_with (first | (go_at_call 28; refine (floor_any _ _ _ (by omega) (by omega) (by omega)).mono ?_; rintro e w' ⟨rfl, rfl⟩) | (go_at_call 21; refine (mod_any _ _ _ (by omega) (by omega) (by omega) (by omega)).mono ?_; rintro e w' ⟨rfl, rfl⟩))
  all_goals go_ret
  all_goals exact ⟨ret_int (by have := HE.out; omega), rfl⟩
theorem ny_ref (y : Int) : (el (y + 1) - el y = 356 ∧ el y + 2 - 1373427 = ny y) ∨ (el (y + 1) - el y ≠ 356 ∧ el y - el (y - 1) = 382 ∧ el y + 1 - 1373427 = ny y) ∨ (el (y + 1) - el y ≠ 356 ∧ el y - el (y - 1) ≠ 382 ∧ el y - 1373427 = ny y) := by
  have := ny_cases y; omega
set_option maxHeartbeats 400000 in
theorem newYear_any (y : Int) (w : World) (y1 : 0 ≤ y) (y2 : y ≤ 30000) :
    Calls Try.prog 46 #[.int .i64 y] w fun e w' => e = .returned (.int .i64 (ny y)) ∧ w = w' := by
  have a := el_bd (y := y) (by omega) (by omega)
  have b := el_bd (y := y + 1) (by omega) (by omega)
  have c := el_bd (y := y - 1) (by omega) (by omega)
  rcases ny_ref y with ⟨p, e⟩ | ⟨p, q, e⟩ | ⟨p, q, e⟩
  · have d1 : (el (y + 1) - el y == 356) = true := by simpa using p
    have HE := Lib.hid e; clear p e
    go_enter Try.func46, Try.ntmps46
    go_wp2_with (go_at_call 51; refine (refelapsed_any _ _ (by omega) (by omega)).mono ?_; rintro e w' ⟨rfl, rfl⟩)
    go_ret
    exact ⟨ret_int HE.out, rfl⟩
  · have d1 : (el (y + 1) - el y == 356) = false := by simpa using p
    have d2 : (el y - el (y - 1) == 382) = true := by simpa using q
    have HE := Lib.hid e; clear p q e
    go_enter Try.func46, Try.ntmps46
    go_wp2_with (go_at_call 51; refine (refelapsed_any _ _ (by omega) (by omega)).mono ?_; rintro e w' ⟨rfl, rfl⟩)
    go_ret
    exact ⟨ret_int HE.out, rfl⟩
  · have d1 : (el (y + 1) - el y == 356) = false := by simpa using p
    have d2 : (el y - el (y - 1) == 382) = false := by simpa using q
    have HE := Lib.hid e; clear p q e
    go_enter Try.func46, Try.ntmps46
    go_wp2_with (go_at_call 51; refine (refelapsed_any _ _ (by omega) (by omega)).mono ?_; rintro e w' ⟨rfl, rfl⟩)
    go_ret
    exact ⟨ret_int HE.out, rfl⟩
set_option maxHeartbeats 4000000 in
theorem hmonth_any (y m : Int) (w : World) (y1 : 0 ≤ y) (y2 : y ≤ 20001) (m1 : 1 ≤ m) (m2 : m ≤ 13) :
    Calls Try.prog 32 #[.int .i64 y, .int .i64 m] w fun e w' => e = .returned (.int .i64 (hm y m)) ∧ w = w' := by
  have a := ny_bd (y := y) (by omega) (by omega)
  have b := ny_bd (y := y + 1) (by omega) (by omega)
  have c : m = 1 ∨ m = 2 ∨ m = 3 ∨ m = 4 ∨ m = 5 ∨ m = 6 ∨ m = 7 ∨ m = 8 ∨ m = 9 ∨ m = 10 ∨ m = 11 ∨ m = 12 ∨ m = 13 := by omega
  have HC := Lib.hid (mc_cases y)
  have HY : Hid (yl y = ny (y + 1) - ny y) := Lib.hid rfl
  clear m1 m2
  rcases c with rfl | rfl | rfl | rfl | rfl | rfl | rfl | rfl | rfl | rfl | rfl | rfl | rfl
  all_goals
    go_enter Try.func32, Try.ntmps32
    go_wp2_with (first | (go_at_call 46; refine (newYear_any _ _ (by omega) (by omega)).mono ?_; rintro e w' ⟨rfl, rfl⟩) | (go_at_call 43; refine (refleap_any _ _ (by omega) (by omega)).mono ?_; rintro e w' ⟨rfl, rfl⟩))
  all_goals go_ret
  all_goals refine ⟨ret_int ?_, rfl⟩
  all_goals first
    | (simp [hm]; done)
    | (rcases HC.out with ⟨l, e⟩ | ⟨l, e⟩ <;> (simp_all [hm]; done))
    | (simp only [hm]; simp [h8, HY.out]; omega)
    | (simp only [hm]; simp [h9, HY.out]; omega)
    | (simp only [beq_iff_eq, beq_eq_false_iff_ne] at *; simp only [hm]; simp [h9, HY.out]; omega)
/- days before a month, also the one behind the last -/
def cumx (y k : Int) : Int := if k ≤ mc y then cum y k else yl y - 177
theorem cumx_in {y k : Int} (h : k ≤ mc y) : cumx y k = cum y k := by unfold cumx; rw [if_pos h]
theorem cumx_out {y : Int} : cumx y (mc y + 1) = cum y 1 := by unfold cumx; rw [if_neg (by omega)]; unfold cum; simp
theorem cumx_7 (y : Int) : cumx y 7 = 0 := by rw [cumx_in (by have := mc_bd y; omega)]; unfold cum; simp
theorem len_hm {y m : Int} (h1 : 1 ≤ y) (h2 : y ≤ 20000) (m1 : 1 ≤ m) (m2 : m ≤ mc y) : len y m = hm y m := by have := len_cases y m; omega
theorem cumx_succ {y k : Int} (h1 : 1 ≤ y) (h2 : y ≤ 20000) (k1 : 7 ≤ k) (k2 : k ≤ mc y) : cumx y (k + 1) = cumx y k + hm y k := by
  have c := cum_next h1 h2 (m := k) (by omega) k2 (by omega)
  rw [← len_hm h1 h2 (by omega) k2]
  rcases nm_cases y k with ⟨a, b⟩ | ⟨a, b⟩
  · rw [b] at c; rw [cumx_in k2, a, cumx_out, c, a]
  · rw [b] at c; rw [cumx_in k2, cumx_in (by omega), c]
theorem cum_succ {y k : Int} (h1 : 1 ≤ y) (h2 : y ≤ 20000) (k1 : 1 ≤ k) (k2 : k < 6) : cum y (k + 1) = cum y k + hm y k := by
  have mb := mc_bd y
  have c := cum_next h1 h2 (m := k) k1 (by omega) (by omega)
  rw [← len_hm h1 h2 k1 (by omega)]
  rcases nm_cases y k with ⟨a, b⟩ | ⟨a, b⟩
  · omega
  · rw [b] at c; exact c
theorem cumx_bd {y k : Int} (h1 : 1 ≤ y) (h2 : y ≤ 20000) (k1 : 1 ≤ k) : 0 ≤ cumx y k ∧ cumx y k ≤ 400 := by
  have b := yl_bd h1 h2
  by_cases h : k ≤ mc y
  · rw [cumx_in h]
    have := cum_end h1 h2 k1 h
    have := len_bd y k
    omega
  · unfold cumx; rw [if_neg h]; omega
set_option maxHeartbeats 1000000 in
theorem hebrew_hi (y m d : Int) (w : World) (y1 : 1 ≤ y) (y2 : y ≤ 20000) (m1 : 7 ≤ m) (m2 : m ≤ mc y) (d1 : -1000000 ≤ d) (d2 : d ≤ 1000000) :
    Calls Try.prog 39 #[.int .i64 y, .int .i64 m, .int .i64 d] w fun e w' => e = .returned (.int .i64 (num y m d)) ∧ w = w' := by
  have mb := mc_bd y
  have a := ny_bd (y := y) (by omega) (by omega)
  have H7 : Hid (num y 7 d = ny y + d - 1) := by show _ = _; unfold num cum; simp
  have b1 : decide (m < 7) = false := by simp; omega
  rcases mc_cases y with ⟨l, e⟩ | ⟨l, e⟩
  all_goals
    have HL := Lib.hid l; clear l
    go_enter Try.func39, Try.ntmps39
    go_wp2_with (first | (go_at_call 46; refine (newYear_any _ _ (by omega) (by omega)).mono ?_; rintro e w' ⟨rfl, rfl⟩) | (go_at_call 43; refine (refleap_is HL.out (by omega) (by omega) _).mono ?_; rintro e w' ⟨rfl, rfl⟩))
    go_loop [8, 11] (fun t i => ∃ k : Int, 7 ≤ k ∧ k ≤ m ∧ i = .int .i64 k ∧ t = .int .i64 (num y k d)) (fun _ i => (m - intOf i).toNat)
    case atStart => exact ⟨7, by omega, by omega, rfl, by rw [H7.out]⟩
    case round =>
      obtain ⟨k, k1, k2, rfl, rfl⟩ := hrel
      have kb := cum_end y1 y2 (m := k) (by omega) (by omega)
      have ld := hm_bd y k
      have nb : -20001000 ≤ num y k d ∧ num y k d ≤ 20001000 := by have := yl_bd y1 y2; have := len_bd y k; unfold num; omega
      by_cases hlt : k < m
      · have s := cumx_succ y1 y2 (k := k) k1 (by omega)
        rw [cumx_in (by omega), cumx_in (by omega)] at s
        have HS : Hid (num y (k + 1) d = num y k d + hm y k) := by unfold num; show _ = _; omega
        clear s
        go_wp2_with (go_at_call 32; refine (hmonth_any _ _ _ (by omega) (by omega) (by omega) (by omega)).mono ?_; rintro e w' ⟨rfl, rfl⟩)
        go_round
        case rel => exact ⟨k + 1, by omega, by omega, rfl, by rw [HS.out]⟩
        case measure => simp [intOf]; omega
      · obtain rfl : k = m := by omega
        go_wp2
        go_ret
        exact ⟨rfl, rfl⟩
set_option maxHeartbeats 1000000 in
theorem hebrew_lo (y m d : Int) (w : World) (y1 : 1 ≤ y) (y2 : y ≤ 20000) (m1 : 1 ≤ m) (m2 : m < 7) (d1 : -1000000 ≤ d) (d2 : d ≤ 1000000) :
    Calls Try.prog 39 #[.int .i64 y, .int .i64 m, .int .i64 d] w fun e w' => e = .returned (.int .i64 (num y m d)) ∧ w = w' := by
  have mb := mc_bd y
  have a := ny_bd (y := y) (by omega) (by omega)
  have H7 := Lib.hid (cumx_7 y)
  rcases mc_cases y with ⟨l, e⟩ | ⟨l, e⟩
  all_goals
    have HL := Lib.hid l; clear l
    go_enter Try.func39, Try.ntmps39
    go_wp2_with (first | (go_at_call 46; refine (newYear_any _ _ (by omega) (by omega)).mono ?_; rintro e w' ⟨rfl, rfl⟩) | (go_at_call 43; refine (refleap_is HL.out (by omega) (by omega) _).mono ?_; rintro e w' ⟨rfl, rfl⟩))
    go_loop [8, 9] (fun t i => ∃ k : Int, 7 ≤ k ∧ k ≤ mc y + 1 ∧ i = .int .i64 k ∧ t = .int .i64 (ny y + cumx y k + d - 1)) (fun _ i => (14 - intOf i).toNat)
    case atStart => exact ⟨7, by omega, by omega, rfl, by rw [H7.out, Int.add_zero]⟩
    case round =>
      obtain ⟨k, k1, k2, rfl, rfl⟩ := hrel
      have kb := cumx_bd y1 y2 (k := k) (by omega)
      have ld := hm_bd y k
      by_cases hlt : k ≤ mc y
      · have s := cumx_succ y1 y2 (k := k) k1 hlt
        have HS : Hid (ny y + cumx y (k + 1) + d - 1 = ny y + cumx y k + d - 1 + hm y k) := by show _ = _; omega
        clear s
        rw [e] at hlt k2
        go_wp2_with (go_at_call 32; refine (hmonth_any _ _ _ (by omega) (by omega) (by omega) (by omega)).mono ?_; rintro e w' ⟨rfl, rfl⟩)
        go_round
        case rel => exact ⟨k + 1, by omega, by omega, rfl, by rw [HS.out]⟩
        case measure => simp [intOf]; omega
      · have ek : k = mc y + 1 := by omega
        have HX : Hid (ny y + cumx y (mc y + 1) + d - 1 = num y 1 d) := by show _ = _; rw [cumx_out]; rfl
        rw [e] at hlt k2 ek HX
        subst ek
        go_wp2
        go_loop [8, 10] (fun t i => ∃ j : Int, 1 ≤ j ∧ j ≤ m ∧ i = .int .i64 j ∧ t = .int .i64 (num y j d)) (fun _ i => (m - intOf i).toNat)
        case atStart => exact ⟨1, by omega, by omega, rfl, congrArg (Value.int .i64) HX.out⟩
        case round =>
          obtain ⟨j, j1, j2, rfl, rfl⟩ := hrel
          have jb := cum_end y1 y2 (m := j) (by omega) (by omega)
          have jd := hm_bd y j
          have nb : -20001000 ≤ num y j d ∧ num y j d ≤ 20001000 := by have := yl_bd y1 y2; have := len_bd y j; unfold num; omega
          by_cases jlt : j < m
          · have s := cum_succ y1 y2 (k := j) j1 (by omega)
            have HS : Hid (num y (j + 1) d = num y j d + hm y j) := by unfold num; show _ = _; omega
            clear s
            go_wp2_with (go_at_call 32; refine (hmonth_any _ _ _ (by omega) (by omega) (by omega) (by omega)).mono ?_; rintro e w' ⟨rfl, rfl⟩)
            go_round
            case rel => exact ⟨j + 1, by omega, by omega, rfl, by rw [HS.out]⟩
            case measure => simp [intOf]; omega
          · obtain rfl : j = m := by omega
            go_wp2
            go_ret
            exact ⟨rfl, rfl⟩
set_option maxHeartbeats 1000000 in
theorem hebrew_7 (y d : Int) (w : World) (y1 : 1 ≤ y) (y2 : y ≤ 20001) (d1 : -1000000 ≤ d) (d2 : d ≤ 1000000) :
    Calls Try.prog 39 #[.int .i64 y, .int .i64 7, .int .i64 d] w fun e w' => e = .returned (.int .i64 (ny y + d - 1)) ∧ w = w' := by
  have a := ny_bd (y := y) (by omega) (by omega)
  rcases mc_cases y with ⟨l, e⟩ | ⟨l, e⟩
  all_goals
    have HL := Lib.hid l; clear l e
    go_enter Try.func39, Try.ntmps39
    go_wp2_with (first | (go_at_call 46; refine (newYear_any _ _ (by omega) (by omega)).mono ?_; rintro e w' ⟨rfl, rfl⟩) | (go_at_call 43; refine (refleap_is HL.out (by omega) (by omega) _).mono ?_; rintro e w' ⟨rfl, rfl⟩))
    go_loop [8, 11] (fun t i => t = .int .i64 (ny y + d - 1) ∧ i = .int .i64 7) (fun _ _ => 0)
    case atStart => exact ⟨rfl, rfl⟩
    case round =>
      obtain ⟨rfl, rfl⟩ := hrel
      go_wp2
      go_ret
      exact ⟨rfl, rfl⟩
theorem hebrew_any (y m d : Int) (w : World) (y1 : 1 ≤ y) (y2 : y ≤ 20000) (m1 : 1 ≤ m) (m2 : m ≤ mc y) (d1 : -1000000 ≤ d) (d2 : d ≤ 1000000) :
    Calls Try.prog 39 #[.int .i64 y, .int .i64 m, .int .i64 d] w fun e w' => e = .returned (.int .i64 (num y m d)) ∧ w = w' := by
  by_cases h : m < 7
  · exact hebrew_lo y m d w y1 y2 m1 h d1 d2
  · exact hebrew_hi y m d w y1 y2 (by omega) m2 d1 d2
set_option maxHeartbeats 1000000 in
theorem fixed (y m d : Int) (w : World) (y1 : 1 ≤ y) (y2 : y ≤ 20000) (m1 : 1 ≤ m) (m2 : m ≤ mc y) (d1 : -1000000 ≤ d) (d2 : d ≤ 1000000) :
    Calls Try.prog 19 #[.int .i64 3, .int .i64 y, .int .i64 m, .int .i64 d] w fun e w' => e = .returned (.int .i64 (num y m d)) ∧ w = w' := by
  go_enter Try.func19, Try.ntmps19
  go_wp2_with (go_at_call 39; refine (hebrew_any _ _ _ _ y1 y2 m1 m2 d1 d2).mono ?_; rintro e w' ⟨rfl, rfl⟩)
  go_ret
  exact ⟨rfl, rfl⟩
set_option maxHeartbeats 1000000 in
theorem fixed_7 (y : Int) (w : World) (y1 : 1 ≤ y) (y2 : y ≤ 20001) :
    Calls Try.prog 19 #[.int .i64 3, .int .i64 y, .int .i64 7, .int .i64 1] w fun e w' => e = .returned (.int .i64 (ny y)) ∧ w = w' := by
  go_enter Try.func19, Try.ntmps19
  go_wp2_with (go_at_call 39; refine (hebrew_7 _ _ _ y1 y2 (by omega) (by omega)).mono ?_; rintro e w' ⟨rfl, rfl⟩)
  go_ret
  exact ⟨rfl, rfl⟩
set_option maxHeartbeats 1000000 in
theorem months (y : Int) (w : World) (y1 : -40000 ≤ y) (y2 : y ≤ 40000) : Calls Try.prog 20 #[.int .i64 3, .int .i64 y] w fun e w' => e = .returned (.int .i64 (mc y)) ∧ w = w' := by
  rcases mc_cases y with ⟨l, e⟩ | ⟨l, e⟩
  all_goals
    have HL := Lib.hid l; have HE := Lib.hid e; clear l e
    go_enter Try.func20, Try.ntmps20
    go_wp2_with (go_at_call 43; refine (refleap_is HL.out y1 y2 _).mono ?_; rintro e w' ⟨rfl, rfl⟩)
    go_ret
    exact ⟨ret_int HE.out.symm, rfl⟩
set_option maxHeartbeats 1000000 in
theorem least (w : World) : Calls Try.prog 26 #[.int .i64 3] w fun e w' => e = .returned (.int .i64 3000) ∧ w = w' := by
  go_enter Try.func26, Try.ntmps26
  go_wp2
  go_ret
  exact ⟨rfl, rfl⟩
set_option maxHeartbeats 1000000 in
theorem years (w : World) : Calls Try.prog 31 #[.int .i64 3] w fun e w' => e = .returned (.tuple #[.int .i64 1, .int .i64 20000]) ∧ w = w' := by
  go_enter Try.func31, Try.ntmps31
  go_wp2
  go_ret2
  exact ⟨rfl, rfl⟩
set_option maxHeartbeats 1000000 in
theorem refbegins_any (y : Int) (w : World) (y1 : 0 ≤ y) (y2 : y ≤ 30000) :
    Calls Try.prog 29 #[.int .i64 3, .int .i64 y] w fun e w' => e = .returned (.int .i64 (ny y)) ∧ w = w' := by
  go_enter Try.func29, Try.ntmps29
  go_wp2_with (go_at_call 46; refine (newYear_any _ _ y1 y2).mono ?_; rintro e w' ⟨rfl, rfl⟩)
  go_ret
  exact ⟨rfl, rfl⟩
set_option maxHeartbeats 1000000 in
theorem reflength (y m : Int) (y1 : 1 ≤ y) (y2 : y ≤ 20000) : Gives 15 #[.int .i64 3, .int .i64 y, .int .i64 m] (len y m) := by
  intro w
  have mb := mc_bd y
  have lc := len_cases y m
  by_cases m1 : m < 1
  · have HL : Hid (len y m = 0) := by show _ = _; omega
    clear lc
    go_enter Try.func15, Try.ntmps15
    go_wp2
    go_ret
    exact ⟨ret_int HL.out.symm, rfl⟩
  · have d1 : decide (m < 1) = false := by simp; omega
    by_cases m2 : mc y < m
    · have HL : Hid (len y m = 0) := by show _ = _; omega
      clear lc
      go_enter Try.func15, Try.ntmps15
      go_wp2_with (go_at_call 20; refine (months _ _ (by omega) (by omega)).mono ?_; rintro e w' ⟨rfl, rfl⟩)
      go_ret
      exact ⟨ret_int HL.out.symm, rfl⟩
    · have d2 : decide (mc y < m) = false := by simp; omega
      have HL : Hid (hm y m = len y m) := by show _ = _; omega
      clear lc
      go_enter Try.func15, Try.ntmps15
      go_wp2_with (first | (go_at_call 20; refine (months _ _ (by omega) (by omega)).mono ?_; rintro e w' ⟨rfl, rfl⟩) | (go_at_call 32; refine (hmonth_any _ _ _ (by omega) (by omega) (by omega) (by omega)).mono ?_; rintro e w' ⟨rfl, rfl⟩))
      go_ret
      exact ⟨ret_int HL.out, rfl⟩
end Go.Proofs.Ythpdnlmjnfllcaa.Heb
