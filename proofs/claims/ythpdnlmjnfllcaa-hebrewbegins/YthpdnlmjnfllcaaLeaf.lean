/- What the leaf functions of package rata return: Leap, Length, beforeYear, Of, Weekday. -/
import Derived.Test.YthpdnlmjnfllcaaProg
import Derived.Test.YthpdnlmjnfllcaaCal
import Derived.Test.YthpdnlmjnfllcaaGr
import Derived.WalkKit
import Derived.WalkSpells
import Derived.WalkLawsBesides
import Derived.Lib.Hide
import Derived.BigQuiet
import Derived.Deep.QuietTactic
namespace Go.Proofs.Ythpdnlmjnfllcaa
open Go.RowKit


theorem tmod_zero (y k : Int) : y.tmod k = 0 ↔ y % k = 0 :=
  ⟨fun h => Int.emod_eq_zero_of_dvd (Int.dvd_of_tmod_eq_zero h), fun h => Int.tmod_eq_zero_of_dvd (Int.dvd_of_emod_eq_zero h)⟩
theorem tmod_cases (n : Int) {k : Int} (hk : 0 < k) : (0 ≤ n ∧ n.tmod k = n % k) ∨ (n < 0 ∧ n % k = 0 ∧ n.tmod k = 0) ∨ (n < 0 ∧ n % k ≠ 0 ∧ n.tmod k = n % k - k) := by
  have e := Int.tmod_eq_emod (a := n) (b := k)
  by_cases h0 : 0 ≤ n
  · left; exact ⟨h0, by rw [e, if_pos (Or.inl h0)]; omega⟩
  · by_cases hd : k ∣ n
    · right; left; exact ⟨by omega, Int.emod_eq_zero_of_dvd hd, Int.tmod_eq_zero_of_dvd hd⟩
    · right; right; refine ⟨by omega, fun h => hd (Int.dvd_of_emod_eq_zero h), ?_⟩
      rw [e, if_neg (by intro h; rcases h with h | h <;> contradiction)]; omega

theorem dim_31 {y m : Int} (h : m = 1 ∨ m = 3 ∨ m = 5 ∨ m = 7 ∨ m = 8 ∨ m = 10 ∨ m = 12) : Cal.dim y m = 31 := by
  unfold Cal.dim; rw [if_neg (by omega), if_neg (by omega), if_pos (by omega)]
theorem dim_30 {y m : Int} (h : m = 4 ∨ m = 6 ∨ m = 9 ∨ m = 11) : Cal.dim y m = 30 := by
  unfold Cal.dim; rw [if_neg (by omega), if_pos (by omega)]
theorem dim_29 {y m : Int} (h : m = 2) (hl : Cal.lpB y = true) : Cal.dim y m = 29 := by
  unfold Cal.dim; rw [if_pos h, Cal.lp_t hl]; rfl
theorem dim_28 {y m : Int} (h : m = 2) (hl : Cal.lpB y = false) : Cal.dim y m = 28 := by
  unfold Cal.dim; rw [if_pos h, Cal.lp_f hl]; rfl
theorem dim_0 {y m : Int} (h : m ≠ 2 ∧ ¬ (m = 4 ∨ m = 6 ∨ m = 9 ∨ m = 11) ∧ ¬ (m = 1 ∨ m = 3 ∨ m = 5 ∨ m = 7 ∨ m = 8 ∨ m = 10 ∨ m = 12)) : Cal.dim y m = 0 := by
  unfold Cal.dim; rw [if_neg (by omega), if_neg (by omega), if_neg (by omega)]

set_option maxHeartbeats 400000 in
theorem of_any (n : Int) (w : World) :
    Calls Try.prog 22 #[.int .i64 n] w fun e w' => e = .returned (.bool (Cal.dayB n)) ∧ w = w' := by
  go_enter Try.func22, Try.ntmps22
  go_wp2
  all_goals go_ret
  all_goals refine ⟨ret_bool ?_, rfl⟩
  all_goals rw [Bool.eq_iff_iff, Cal.dayB_iff]
  all_goals simp
  all_goals omega

end Go.Proofs.Ythpdnlmjnfllcaa
