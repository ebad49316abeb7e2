/- What rata.Day returns. -/
import Derived.Test.YtjngioanpphdkaaRata
namespace Go.Proofs.Ytjngioanpphdkaa
open Go.RowKit

set_option maxHeartbeats 1000000 in
theorem add_yes (n k : Int) (w : World) (h : Cal.dayB n = true) (hk : Cal.dayB (n + k) = true) :
    Calls Try.prog 28 #[.int .i64 n, .int .i64 k] w fun e w' => e = .returned (.tuple #[.int .i64 (n + k), .int .i64 0]) ∧ w = w' := by
  obtain ⟨n1, n2⟩ := Cal.dayB_iff.1 h
  obtain ⟨k1, k2⟩ := Cal.dayB_iff.1 hk
  have H := Lib.hid h; clear h hk
  have b1 : decide (k < 1 - n) = false := by simp; omega
  have b2 : decide (3652059 - n < k) = false := by simp; omega
  go_enter Try.func28, Try.ntmps28
  go_wp2_with fail
  refine (of_any _ _).mono ?_
  rintro e w' ⟨rfl, rfl⟩
  rw [H.out]
  go_wp2
  go_ret2
  exact ⟨rfl, rfl⟩
set_option maxHeartbeats 1000000 in
theorem add_no (n k : Int) (w : World) (h : Cal.dayB n = false ∨ Cal.dayB (n + k) = false) :
    Calls Try.prog 28 #[.int .i64 n, .int .i64 k] w fun e w' => e = .returned (.tuple #[.int .i64 0, .int .i64 2]) ∧ w = w' := by
  by_cases hn : Cal.dayB n = true
  · obtain ⟨n1, n2⟩ := Cal.dayB_iff.1 hn
    have hk : ¬ (1 ≤ n + k ∧ n + k ≤ 3652059) := by
      rw [← Cal.dayB_iff]; rcases h with h | h
      · simp [h] at hn
      · simp [h]
    have H := Lib.hid hn; clear hn h
    by_cases b1 : k < 1 - n
    · go_enter Try.func28, Try.ntmps28
      go_wp2_with fail
      refine (of_any _ _).mono ?_
      rintro e w' ⟨rfl, rfl⟩
      rw [H.out]
      go_wp2
      go_ret2
      exact ⟨rfl, rfl⟩
    · have b2 : 3652059 - n < k := by omega
      have b1' : decide (k < 1 - n) = false := by simp; omega
      clear hk
      go_enter Try.func28, Try.ntmps28
      go_wp2_with fail
      refine (of_any _ _).mono ?_
      rintro e w' ⟨rfl, rfl⟩
      rw [H.out]
      go_wp2
      go_ret2
      exact ⟨rfl, rfl⟩
  · have hn' : Cal.dayB n = false := by simpa using hn
    have H := Lib.hid hn'; clear hn hn' h
    go_enter Try.func28, Try.ntmps28
    go_wp2_with fail
    refine (of_any _ _).mono ?_
    rintro e w' ⟨rfl, rfl⟩
    rw [H.out]
    go_wp2
    go_ret2
    exact ⟨rfl, rfl⟩

end Go.Proofs.Ytjngioanpphdkaa
