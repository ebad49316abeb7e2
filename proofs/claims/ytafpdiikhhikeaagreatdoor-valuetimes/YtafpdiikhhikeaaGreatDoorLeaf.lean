/- What the leaf functions of package rata return: Leap, Length, beforeYear, Of, Weekday. -/
import Derived.Test.YtafpdiikhhikeaaGreatDoorProg
import Derived.Test.YtafpdiikhhikeaaGreatDoorCal
import Derived.Test.YtafpdiikhhikeaaGreatDoorGr
import Derived.WalkKit
import Derived.WalkSpells
import Derived.WalkLawsBesides
import Derived.Lib.Hide
import Derived.BigQuiet
import Derived.Deep.QuietTactic
namespace Go.Proofs.YtafpdiikhhikeaaGreatDoor
open Go.RowKit


theorem tmod_zero (y k : Int) : y.tmod k = 0 ↔ y % k = 0 :=
  ⟨fun h => Int.emod_eq_zero_of_dvd (Int.dvd_of_tmod_eq_zero h), fun h => Int.tmod_eq_zero_of_dvd (Int.dvd_of_emod_eq_zero h)⟩
theorem tmod_cases (n : Int) {k : Int} (hk : 0 < k) : (0 ≤ n ∧ n.tmod k = n % k) ∨ (n < 0 ∧ n % k = 0 ∧ n.tmod k = 0) ∨ (n < 0 ∧ n % k ≠ 0 ∧ n.tmod k = n % k - k) := by
  have e := Int.tmod_eq_emod (a := n) (b := k)
  by_cases h0 : 0 ≤ n
  · left; exact ⟨h0, by rw [e, if_pos (Or.inl h0)]; omega⟩
  · by_cases hd : k ∣ n
    · right; left; exact ⟨by omega, Int.emod_eq_zero_of_dvd hd, Int.tmod_eq_zero_of_dvd hd⟩
    · right; right; refine ⟨by omega, fun h => hd (Int.dvd_of_emod_eq_zero h), ?_⟩
      rw [e, if_neg (by intro h; rcases h with h | h <;> contradiction)]; omega

set_option maxHeartbeats 400000 in
theorem leap_any (y : Int) (w : World) :
    Calls Tryz.prog 59 #[.int .i64 y] w fun e w' => e = .returned (.bool (Cal.lpB y)) ∧ w = w' := by
  go_enter Tryz.func59, Tryz.ntmps59
  go_wp2
  all_goals go_ret
  all_goals refine ⟨ret_bool ?_, rfl⟩
  all_goals rw [Bool.eq_iff_iff, Cal.lpB_iff]
  all_goals simp only [beq_iff_eq, tmod_zero] at *
  all_goals simp [*]

theorem dim_31 {y m : Int} (h : m = 1 ∨ m = 3 ∨ m = 5 ∨ m = 7 ∨ m = 8 ∨ m = 10 ∨ m = 12) : Cal.dim y m = 31 := by
  unfold Cal.dim; rw [if_neg (by omega), if_neg (by omega), if_pos (by omega)]
theorem dim_30 {y m : Int} (h : m = 4 ∨ m = 6 ∨ m = 9 ∨ m = 11) : Cal.dim y m = 30 := by
  unfold Cal.dim; rw [if_neg (by omega), if_pos (by omega)]
theorem dim_29 {y m : Int} (h : m = 2) (hl : Cal.lpB y = true) : Cal.dim y m = 29 := by
  unfold Cal.dim; rw [if_pos h, Cal.lp_t hl]; rfl
theorem dim_28 {y m : Int} (h : m = 2) (hl : Cal.lpB y = false) : Cal.dim y m = 28 := by
  unfold Cal.dim; rw [if_pos h, Cal.lp_f hl]; rfl
theorem dim_0 {y m : Int} (h : m ≠ 2 ∧ ¬ (m = 4 ∨ m = 6 ∨ m = 9 ∨ m = 11) ∧ ¬ (m = 1 ∨ m = 3 ∨ m = 5 ∨ m = 7 ∨ m = 8 ∨ m = 10 ∨ m = 12)) : Cal.dim y m = 0 := by
  unfold Cal.dim; rw [if_neg (by omega), if_neg (by omega), if_neg (by omega)]

set_option maxHeartbeats 400000 in
theorem length_any (y m : Int) (w : World) :
    Calls Tryz.prog 43 #[.int .i64 y, .int .i64 m] w fun e w' => e = .returned (.int .i64 (Cal.dim y m)) ∧ w = w' := by
  go_enter Tryz.func43, Tryz.ntmps43
  go_wp2_with (go_at_call 59; refine (leap_any _ _).mono ?_; rintro e w' ⟨rfl, rfl⟩)
  all_goals go_ret
  all_goals refine ⟨ret_int ?_, rfl⟩
  all_goals simp only [beq_iff_eq, beq_eq_false_iff_ne, ne_eq] at *
  all_goals first
    | exact (dim_31 (by omega)).symm
    | exact (dim_30 (by omega)).symm
    | exact (dim_29 (by omega) (by assumption)).symm
    | exact (dim_28 (by omega) (by assumption)).symm
    | exact (dim_0 (by omega)).symm

set_option maxHeartbeats 400000 in
theorem before_any (y : Int) (w : World) (h1 : 1 ≤ y) (h2 : y ≤ 20000) :
    Calls Tryz.prog 42 #[.int .i64 y] w fun e w' => e = .returned (.int .i64 (Cal.dby y)) ∧ w = w' := by
  go_enter Tryz.func42, Tryz.ntmps42
  go_wp2
  go_ret
  exact ⟨ret_int (by unfold Cal.dby; rfl), rfl⟩

set_option maxHeartbeats 400000 in
theorem of_any (n : Int) (w : World) :
    Calls Tryz.prog 40 #[.int .i64 n] w fun e w' => e = .returned (.bool (Cal.dayB n)) ∧ w = w' := by
  go_enter Tryz.func40, Tryz.ntmps40
  go_wp2
  all_goals go_ret
  all_goals refine ⟨ret_bool ?_, rfl⟩
  all_goals rw [Bool.eq_iff_iff, Cal.dayB_iff]
  all_goals simp
  all_goals omega

set_option maxHeartbeats 400000 in
theorem yearOf_any (n : Int) (w : World) (h1 : 1 ≤ n) (h2 : n ≤ 3652059) :
    Calls Tryz.prog 41 #[.int .i64 n] w fun e w' => e = .returned (.int .i64 (Cal.yr n)) ∧ w = w' := by
  have g := Cal.guess_bd h1 h2
  unfold Cal.guess at g
  go_enter Tryz.func41, Tryz.ntmps41
  go_wp2_with (go_at_call 42; refine (before_any _ _ (by omega) (by omega)).mono ?_; rintro e w' ⟨rfl, rfl⟩)
  all_goals go_ret
  · refine ⟨ret_int ?_, rfl⟩
    unfold Cal.yr; rw [if_pos (by assumption)]; rfl
  · refine ⟨ret_int ?_, rfl⟩
    unfold Cal.yr; rw [if_neg (by show ¬ Cal.dby ((n - 1) * 400 / 146097 + 1 + 1) < n; omega)]; rfl
end Go.Proofs.YtafpdiikhhikeaaGreatDoor
