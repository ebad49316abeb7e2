/- What the functions of package floor return: Quotient, Remainder. -/
import Derived.Test.YthpdnlmjnfllcaaRefLeaf
namespace Go.Proofs.Ythpdnlmjnfllcaa
open Go.RowKit

theorem fq_facts (n : Int) {k : Int} (hk : 0 < k) : (n.tmod k < 0 ∧ n.tdiv k - 1 = n / k) ∨ (0 ≤ n.tmod k ∧ n.tdiv k = n / k) := by
  have e := Int.tmod_add_tdiv_mul n k
  rcases tdiv_facts n (b := k) (by omega) with ⟨a, b, _⟩ | ⟨a, b, _⟩
  · right; exact ⟨by omega, b⟩
  · left; exact ⟨by omega, b⟩
theorem fr_facts (n : Int) {k : Int} (hk : 0 < k) : -k < n.tmod k ∧ n.tmod k < k ∧ (n.tmod k < 0 → n.tmod k + k = n % k) ∧ (0 ≤ n.tmod k → n.tmod k = n % k) := by
  have g0 := Int.emod_nonneg n (b := k) (by omega)
  have g1 := Int.emod_lt_of_pos n (b := k) hk
  rcases tmod_cases n hk with h | h | h <;> omega
set_option maxHeartbeats 400000 in
theorem remainder_any (n k : Int) (w : World) (h1 : 0 < k) (h2 : k ≤ 2000000) :
    Calls Try.prog 50 #[.int .i64 n, .int .i64 k] w fun e w' => e = .returned (.int .i64 (n % k)) ∧ w = w' := by
  obtain ⟨c1, c2, c3, c4⟩ := fr_facts n h1
  by_cases h : n.tmod k < 0
  · have C := Lib.hid (c3 h); clear c3 c4
    go_enter Try.func50, Try.ntmps50
    go_wp2
    go_ret
    exact ⟨ret_int C.out, rfl⟩
  · have C := Lib.hid (c4 (by omega)); clear c3 c4
    have d : decide (n.tmod k < 0) = false := by simp; omega
    go_enter Try.func50, Try.ntmps50
    go_wp2
    go_ret
    exact ⟨ret_int C.out, rfl⟩
set_option maxHeartbeats 400000 in
theorem quotient_any (n k : Int) (w : World) (h1 : 0 < k) (h2 : k ≤ 2000000) (n1 : -100000000000 ≤ n) (n2 : n ≤ 100000000000) :
    Calls Try.prog 49 #[.int .i64 n, .int .i64 k] w fun e w' => e = .returned (.int .i64 (n / k)) ∧ w = w' := by
  have l := ediv_le_abs n (b := k) (by omega)
  rcases fq_facts n h1 with ⟨h, c⟩ | ⟨h, c⟩
  · have t1 : -100000000000 ≤ n.tdiv k := by omega
    have t2 : n.tdiv k ≤ 100000000001 := by omega
    have C := Lib.hid c; clear c l
    go_enter Try.func49, Try.ntmps49
    go_wp2
    go_ret
    exact ⟨ret_int C.out, rfl⟩
  · have t1 : -100000000000 ≤ n.tdiv k := by omega
    have t2 : n.tdiv k ≤ 100000000001 := by omega
    have C := Lib.hid c; clear c l
    have d : decide (n.tmod k < 0) = false := by simp; omega
    go_enter Try.func49, Try.ntmps49
    go_wp2
    go_ret
    exact ⟨ret_int C.out, rfl⟩
end Go.Proofs.Ythpdnlmjnfllcaa
