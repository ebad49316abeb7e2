/- What the leaf functions of the reference return: Floor, Mod, Leap. -/
import Derived.Test.YtmbmkldcedkbmaaGreatZB
namespace Go.Proofs.YtmbmkldcedkbmaaGreat
open Go.RowKit

theorem mul_le_self {q b : Int} (hq : q ≤ 0) (hb : 1 ≤ b) : q * b ≤ q := by
  have h := Int.mul_nonneg (a := -q) (b := b - 1) (by omega) (by omega)
  have e : -q * (b - 1) = -(q * b) + q := by rw [Int.mul_sub, Int.neg_mul]; omega
  omega
theorem tdiv_facts (a : Int) {b : Int} (hb : 1 ≤ b) :
    (a.tdiv b * b ≤ a ∧ a.tdiv b = a / b ∧ (a ≤ a.tdiv b * b ∨ 0 ≤ a.tdiv b * b)) ∨ (a < a.tdiv b * b ∧ a.tdiv b - 1 = a / b ∧ a.tdiv b * b ≤ a.tdiv b ∧ a.tdiv b ≤ 0) := by
  have e := Int.tmod_add_tdiv_mul a b
  have f := Int.emod_add_mul_ediv a b
  have g0 := Int.emod_nonneg a (b := b) (by omega)
  have g1 := Int.emod_lt_of_pos a (b := b) (by omega)
  rcases tmod_cases a (k := b) (by omega) with ⟨h, m⟩ | ⟨h, z, m⟩ | ⟨h, z, m⟩
  · left
    have h1 : a.tdiv b = a / b := Int.tdiv_eq_ediv_of_nonneg h
    have h2 : 0 ≤ a.tdiv b * b := by rw [h1]; exact Int.mul_nonneg (Int.ediv_nonneg h (by omega)) (by omega)
    omega
  · left
    have : a.tdiv b = a / b := by
      have hd : b ∣ a := Int.dvd_of_emod_eq_zero z
      obtain ⟨c, rfl⟩ := hd
      rw [Int.mul_tdiv_cancel_left _ (by omega), Int.mul_ediv_cancel_left _ (by omega)]
    omega
  · right
    have k : a.tdiv b - 1 = a / b := by
      have e1 : b * (a / b) = (a.tdiv b - 1) * b := by rw [Int.sub_mul]; omega
      have e2 : b * (a / b) = b * (a.tdiv b - 1) := by rw [e1, Int.mul_comm]
      exact (Int.eq_of_mul_eq_mul_left (by omega) e2).symm
    have neg : a / b < 0 := Int.ediv_neg_of_neg_of_pos h (by omega)
    exact ⟨by omega, k, mul_le_self (by omega) hb, by omega⟩
theorem ediv_le_abs (a : Int) {b : Int} (hb : 1 ≤ b) : (0 ≤ a → a / b ≤ a) ∧ (a ≤ 0 → a ≤ a / b) ∧ (0 ≤ a → 0 ≤ a / b) ∧ (a ≤ 0 → a / b ≤ 0) := by
  refine ⟨fun h => Int.ediv_le_self _ h, fun h => ?_, fun h => Int.ediv_nonneg h (by omega), fun h => ?_⟩
  · have f := Int.emod_add_mul_ediv a b
    have g0 := Int.emod_nonneg a (b := b) (by omega)
    have g1 := Int.emod_lt_of_pos a (b := b) (by omega)
    by_cases z : a / b ≤ 0
    · have := mul_le_self (q := a / b + 1) (b := b)
      by_cases z2 : a / b ≤ -1
      · have := mul_le_self (q := a / b + 1) (b := b) (by omega) hb
        rw [Int.add_mul, Int.mul_comm] at this
        omega
      · omega
    · omega
  · by_cases z : a = 0
    · subst z; simp
    · have := Int.ediv_neg_of_neg_of_pos (a := a) (b := b) (by omega) (by omega); omega

set_option maxHeartbeats 400000 in
theorem floor_any (a b : Int) (w : World) (a1 : -9223372036854775808 ≤ a) (a2 : a ≤ 9223372036854775807) (hb : 1 ≤ b) :
    Calls Tryz.prog 48 #[.int .i64 a, .int .i64 b] w fun e w' => e = .returned (.int .i64 (a / b)) ∧ w = w' := by
  have l := ediv_le_abs a hb
  have t := tdiv_facts a hb
  have t1 : -9223372036854775808 ≤ a.tdiv b * b := by omega
  have t2 : a.tdiv b * b ≤ 9223372036854775807 := by omega
  have t3 : a < a.tdiv b * b → -9223372036854775807 ≤ a.tdiv b := by omega
  have t4 : a.tdiv b ≤ 9223372036854775807 := by omega
  have T := Lib.hid t; clear t l
  go_enter Tryz.func48, Tryz.ntmps48
  go_wp2
  all_goals go_ret
  · exact ⟨ret_int (by have := T.out; omega), rfl⟩
  · exact ⟨ret_int (by have := T.out; omega), rfl⟩

theorem mod_wrap {a b : Int} (hb : 1 ≤ b) (hb2 : b ≤ 1000000000) : wrap64 (a - wrap64 (b * (a / b))) = a % b := by
  have f := Int.emod_add_mul_ediv a b
  have g0 := Int.emod_nonneg a (b := b) (by omega)
  have g1 := Int.emod_lt_of_pos a (b := b) (by omega)
  generalize b * (a / b) = x at *
  unfold wrap64; omega
set_option maxHeartbeats 400000 in
theorem mod_any (a b : Int) (w : World) (a1 : -9223372036854775808 ≤ a) (a2 : a ≤ 9223372036854775807) (hb : 1 ≤ b) (hb2 : b ≤ 1000000000) :
    Calls Tryz.prog 49 #[.int .i64 a, .int .i64 b] w fun e w' => e = .returned (.int .i64 (a % b)) ∧ w = w' := by
  have HM := Lib.hid (mod_wrap (a := a) hb hb2)
  have A := Lib.hid (And.intro a1 a2)
  clear a1 a2
  go_enter Tryz.func49, Tryz.ntmps49
  go_wp2_with (go_at_call 48; refine (floor_any _ _ _ A.out.1 A.out.2 (by omega)).mono ?_; rintro e w' ⟨rfl, rfl⟩)
  go_ret
  exact ⟨ret_int HM.out, rfl⟩

theorem reflp (y : Int) : (Cal.lpB y = true) ↔ (y % 4 = 0 ∧ y % 400 ≠ 100 ∧ y % 400 ≠ 200 ∧ y % 400 ≠ 300) := by
  rw [Cal.lpB_iff]; omega
theorem reflp_f {y : Int} (h : ¬ (y % 4 = 0 ∧ y % 400 ≠ 100 ∧ y % 400 ≠ 200 ∧ y % 400 ≠ 300)) : Cal.lpB y = false := by
  rw [← reflp] at h; simpa using h
set_option maxHeartbeats 1000000 in
theorem refleap_any (y : Int) (w : World) (a1 : -9223372036854775808 ≤ y) (a2 : y ≤ 9223372036854775807) :
    Calls Tryz.prog 118 #[.int .i64 y] w fun e w' => e = .returned (.bool (Cal.lpB y)) ∧ w = w' := by
  go_enter Tryz.func118, Tryz.ntmps118
  go_wp2_with (go_at_call 49; refine (mod_any _ _ _ (by omega) (by omega) (by omega) (by omega)).mono ?_; rintro e w' ⟨rfl, rfl⟩)
  all_goals go_ret
  all_goals refine ⟨ret_bool ?_, rfl⟩
  · exact (reflp_f (by omega)).symm
  · exact (reflp_f (by omega)).symm
  · rw [Bool.eq_iff_iff, reflp]; simp; omega
  · exact (reflp_f (by omega)).symm

set_option maxHeartbeats 1000000 in
theorem next_any (c y : Int) (w : World) (h : (c == 5) = false) (y1 : -40000 ≤ y) (y2 : y ≤ 40000) :
    Calls Tryz.prog 92 #[.int .i64 c, .int .i64 y] w fun e w' => e = .returned (.int .i64 (y + 1)) ∧ w = w' := by
  go_enter Tryz.func92, Tryz.ntmps92
  go_wp2
  go_ret
  exact ⟨rfl, rfl⟩
set_option maxHeartbeats 1000000 in
theorem months12_any (c y : Int) (w : World) (h2 : (c == 2) = false) (h3 : (c == 3) = false) (h6 : (c == 6) = false) :
    Calls Tryz.prog 89 #[.int .i64 c, .int .i64 y] w fun e w' => e = .returned (.int .i64 12) ∧ w = w' := by
  go_enter Tryz.func89, Tryz.ntmps89
  go_wp2
  go_ret
  exact ⟨rfl, rfl⟩
set_option maxHeartbeats 1000000 in
theorem least0_any (w : World) :
    Calls Tryz.prog 116 #[.int .i64 0] w fun e w' => e = .returned (.int .i64 1) ∧ w = w' := by
  go_enter Tryz.func116, Tryz.ntmps116
  go_wp2
  go_ret
  exact ⟨rfl, rfl⟩
end Go.Proofs.YtmbmkldcedkbmaaGreat
