/- What the reference's may, mayDay, before, freq, weekday and part return (written by mkrfleaf.py). -/
import Derived.Test.YtmbmkldcedkbmaaGreatZRpM
import Derived.Test.YtmbmkldcedkbmaaGreatZE
import Derived.BigQuiet
namespace Go.Proofs.YtmbmkldcedkbmaaGreat
open Go.RowKit

set_option maxHeartbeats 1000000 in
theorem may0_any (n : Int) (w : World) : Calls Tryz.prog 25 #[.int .i64 0, .int .i64 n] w fun e w' => e = .returned (.bool (Rm.may 0 n)) ∧ w = w' := by
  have HM := Lib.hid (show Rm.may 0 n = true ↔ 0 ≤ n ∧ n ≤ 59 by unfold Rm.may; simp)
  obtain ⟨q, hq⟩ : ∃ q, Rm.may 0 n = q := ⟨_, rfl⟩
  rw [hq] at HM ⊢
  clear hq
  by_cases h0 : 0 ≤ n
  · skip
    by_cases h1 : n ≤ 59
    · skip
      have HE : Hid (q = true) := Lib.hid (by exact HM.out.2 ⟨h0, h1⟩)
      clear HM
      go_enter Tryz.func25, Tryz.ntmps25
      go_wp2
      go_ret
      exact ⟨ret_bool HE.out.symm, rfl⟩
    · skip
      have HE : Hid (q = false) := Lib.hid (by cases hc : q; rfl; exact absurd (HM.out.1 hc).2 h1)
      clear HM
      go_enter Tryz.func25, Tryz.ntmps25
      go_wp2
      go_ret
      exact ⟨ret_bool HE.out.symm, rfl⟩
  · skip
    have HE : Hid (q = false) := Lib.hid (by cases hc : q; rfl; exact absurd (HM.out.1 hc).1 h0)
    clear HM
    go_enter Tryz.func25, Tryz.ntmps25
    go_wp2
    go_ret
    exact ⟨ret_bool HE.out.symm, rfl⟩
set_option maxHeartbeats 1000000 in
theorem may1_any (n : Int) (w : World) : Calls Tryz.prog 25 #[.int .i64 1, .int .i64 n] w fun e w' => e = .returned (.bool (Rm.may 1 n)) ∧ w = w' := by
  have HM := Lib.hid (show Rm.may 1 n = true ↔ 0 ≤ n ∧ n ≤ 59 by unfold Rm.may; simp)
  obtain ⟨q, hq⟩ : ∃ q, Rm.may 1 n = q := ⟨_, rfl⟩
  rw [hq] at HM ⊢
  clear hq
  by_cases h0 : 0 ≤ n
  · skip
    by_cases h1 : n ≤ 59
    · skip
      have HE : Hid (q = true) := Lib.hid (by exact HM.out.2 ⟨h0, h1⟩)
      clear HM
      go_enter Tryz.func25, Tryz.ntmps25
      go_wp2
      go_ret
      exact ⟨ret_bool HE.out.symm, rfl⟩
    · skip
      have HE : Hid (q = false) := Lib.hid (by cases hc : q; rfl; exact absurd (HM.out.1 hc).2 h1)
      clear HM
      go_enter Tryz.func25, Tryz.ntmps25
      go_wp2
      go_ret
      exact ⟨ret_bool HE.out.symm, rfl⟩
  · skip
    have HE : Hid (q = false) := Lib.hid (by cases hc : q; rfl; exact absurd (HM.out.1 hc).1 h0)
    clear HM
    go_enter Tryz.func25, Tryz.ntmps25
    go_wp2
    go_ret
    exact ⟨ret_bool HE.out.symm, rfl⟩
set_option maxHeartbeats 1000000 in
theorem may2_any (n : Int) (w : World) : Calls Tryz.prog 25 #[.int .i64 2, .int .i64 n] w fun e w' => e = .returned (.bool (Rm.may 2 n)) ∧ w = w' := by
  have HM := Lib.hid (show Rm.may 2 n = true ↔ 0 ≤ n ∧ n ≤ 23 by unfold Rm.may; simp)
  obtain ⟨q, hq⟩ : ∃ q, Rm.may 2 n = q := ⟨_, rfl⟩
  rw [hq] at HM ⊢
  clear hq
  by_cases h0 : 0 ≤ n
  · skip
    by_cases h1 : n ≤ 23
    · skip
      have HE : Hid (q = true) := Lib.hid (by exact HM.out.2 ⟨h0, h1⟩)
      clear HM
      go_enter Tryz.func25, Tryz.ntmps25
      go_wp2
      go_ret
      exact ⟨ret_bool HE.out.symm, rfl⟩
    · skip
      have HE : Hid (q = false) := Lib.hid (by cases hc : q; rfl; exact absurd (HM.out.1 hc).2 h1)
      clear HM
      go_enter Tryz.func25, Tryz.ntmps25
      go_wp2
      go_ret
      exact ⟨ret_bool HE.out.symm, rfl⟩
  · skip
    have HE : Hid (q = false) := Lib.hid (by cases hc : q; rfl; exact absurd (HM.out.1 hc).1 h0)
    clear HM
    go_enter Tryz.func25, Tryz.ntmps25
    go_wp2
    go_ret
    exact ⟨ret_bool HE.out.symm, rfl⟩
set_option maxHeartbeats 1000000 in
theorem may3_any (n : Int) (w : World) : Calls Tryz.prog 25 #[.int .i64 3, .int .i64 n] w fun e w' => e = .returned (.bool (Rm.may 3 n)) ∧ w = w' := by
  have HM := Lib.hid (show Rm.may 3 n = true ↔ ¬ n = 0 ∧ -31 ≤ n ∧ n ≤ 31 by unfold Rm.may; simp [and_assoc])
  obtain ⟨q, hq⟩ : ∃ q, Rm.may 3 n = q := ⟨_, rfl⟩
  rw [hq] at HM ⊢
  clear hq
  by_cases h0 : n = 0
  · have HE : Hid (q = false) := Lib.hid (by cases hc : q; rfl; exact absurd h0 (HM.out.1 hc).1)
    clear HM
    subst h0
    go_enter Tryz.func25, Tryz.ntmps25
    go_wp2
    go_ret
    exact ⟨ret_bool HE.out.symm, rfl⟩
  · have hb0 : (n != 0) = true := by simpa using h0
    by_cases h1 : -31 ≤ n
    · skip
      by_cases h2 : n ≤ 31
      · skip
        have HE : Hid (q = true) := Lib.hid (by exact HM.out.2 ⟨h0, h1, h2⟩)
        clear HM
        go_enter Tryz.func25, Tryz.ntmps25
        go_wp2
        go_ret
        exact ⟨ret_bool HE.out.symm, rfl⟩
      · skip
        have HE : Hid (q = false) := Lib.hid (by cases hc : q; rfl; exact absurd (HM.out.1 hc).2.2 h2)
        clear HM
        go_enter Tryz.func25, Tryz.ntmps25
        go_wp2
        go_ret
        exact ⟨ret_bool HE.out.symm, rfl⟩
    · skip
      have HE : Hid (q = false) := Lib.hid (by cases hc : q; rfl; exact absurd (HM.out.1 hc).2.1 h1)
      clear HM
      go_enter Tryz.func25, Tryz.ntmps25
      go_wp2
      go_ret
      exact ⟨ret_bool HE.out.symm, rfl⟩
set_option maxHeartbeats 1000000 in
theorem may4_any (n : Int) (w : World) : Calls Tryz.prog 25 #[.int .i64 4, .int .i64 n] w fun e w' => e = .returned (.bool (Rm.may 4 n)) ∧ w = w' := by
  have HM := Lib.hid (show Rm.may 4 n = true ↔ ¬ n = 0 ∧ -366 ≤ n ∧ n ≤ 366 by unfold Rm.may; simp [and_assoc])
  obtain ⟨q, hq⟩ : ∃ q, Rm.may 4 n = q := ⟨_, rfl⟩
  rw [hq] at HM ⊢
  clear hq
  by_cases h0 : n = 0
  · have HE : Hid (q = false) := Lib.hid (by cases hc : q; rfl; exact absurd h0 (HM.out.1 hc).1)
    clear HM
    subst h0
    go_enter Tryz.func25, Tryz.ntmps25
    go_wp2
    go_ret
    exact ⟨ret_bool HE.out.symm, rfl⟩
  · have hb0 : (n != 0) = true := by simpa using h0
    by_cases h1 : -366 ≤ n
    · skip
      by_cases h2 : n ≤ 366
      · skip
        have HE : Hid (q = true) := Lib.hid (by exact HM.out.2 ⟨h0, h1, h2⟩)
        clear HM
        go_enter Tryz.func25, Tryz.ntmps25
        go_wp2
        go_ret
        exact ⟨ret_bool HE.out.symm, rfl⟩
      · skip
        have HE : Hid (q = false) := Lib.hid (by cases hc : q; rfl; exact absurd (HM.out.1 hc).2.2 h2)
        clear HM
        go_enter Tryz.func25, Tryz.ntmps25
        go_wp2
        go_ret
        exact ⟨ret_bool HE.out.symm, rfl⟩
    · skip
      have HE : Hid (q = false) := Lib.hid (by cases hc : q; rfl; exact absurd (HM.out.1 hc).2.1 h1)
      clear HM
      go_enter Tryz.func25, Tryz.ntmps25
      go_wp2
      go_ret
      exact ⟨ret_bool HE.out.symm, rfl⟩
set_option maxHeartbeats 1000000 in
theorem may5_any (n : Int) (w : World) : Calls Tryz.prog 25 #[.int .i64 5, .int .i64 n] w fun e w' => e = .returned (.bool (Rm.may 5 n)) ∧ w = w' := by
  have HM := Lib.hid (show Rm.may 5 n = true ↔ ¬ n = 0 ∧ -53 ≤ n ∧ n ≤ 53 by unfold Rm.may; simp [and_assoc])
  obtain ⟨q, hq⟩ : ∃ q, Rm.may 5 n = q := ⟨_, rfl⟩
  rw [hq] at HM ⊢
  clear hq
  by_cases h0 : n = 0
  · have HE : Hid (q = false) := Lib.hid (by cases hc : q; rfl; exact absurd h0 (HM.out.1 hc).1)
    clear HM
    subst h0
    go_enter Tryz.func25, Tryz.ntmps25
    go_wp2
    go_ret
    exact ⟨ret_bool HE.out.symm, rfl⟩
  · have hb0 : (n != 0) = true := by simpa using h0
    by_cases h1 : -53 ≤ n
    · skip
      by_cases h2 : n ≤ 53
      · skip
        have HE : Hid (q = true) := Lib.hid (by exact HM.out.2 ⟨h0, h1, h2⟩)
        clear HM
        go_enter Tryz.func25, Tryz.ntmps25
        go_wp2
        go_ret
        exact ⟨ret_bool HE.out.symm, rfl⟩
      · skip
        have HE : Hid (q = false) := Lib.hid (by cases hc : q; rfl; exact absurd (HM.out.1 hc).2.2 h2)
        clear HM
        go_enter Tryz.func25, Tryz.ntmps25
        go_wp2
        go_ret
        exact ⟨ret_bool HE.out.symm, rfl⟩
    · skip
      have HE : Hid (q = false) := Lib.hid (by cases hc : q; rfl; exact absurd (HM.out.1 hc).2.1 h1)
      clear HM
      go_enter Tryz.func25, Tryz.ntmps25
      go_wp2
      go_ret
      exact ⟨ret_bool HE.out.symm, rfl⟩
set_option maxHeartbeats 1000000 in
theorem may6_any (n : Int) (w : World) : Calls Tryz.prog 25 #[.int .i64 6, .int .i64 n] w fun e w' => e = .returned (.bool (Rm.may 6 n)) ∧ w = w' := by
  have HM := Lib.hid (show Rm.may 6 n = true ↔ 1 ≤ n ∧ n ≤ 12 by unfold Rm.may; simp)
  obtain ⟨q, hq⟩ : ∃ q, Rm.may 6 n = q := ⟨_, rfl⟩
  rw [hq] at HM ⊢
  clear hq
  by_cases h0 : 1 ≤ n
  · skip
    by_cases h1 : n ≤ 12
    · skip
      have HE : Hid (q = true) := Lib.hid (by exact HM.out.2 ⟨h0, h1⟩)
      clear HM
      go_enter Tryz.func25, Tryz.ntmps25
      go_wp2
      go_ret
      exact ⟨ret_bool HE.out.symm, rfl⟩
    · skip
      have HE : Hid (q = false) := Lib.hid (by cases hc : q; rfl; exact absurd (HM.out.1 hc).2 h1)
      clear HM
      go_enter Tryz.func25, Tryz.ntmps25
      go_wp2
      go_ret
      exact ⟨ret_bool HE.out.symm, rfl⟩
  · skip
    have HE : Hid (q = false) := Lib.hid (by cases hc : q; rfl; exact absurd (HM.out.1 hc).1 h0)
    clear HM
    go_enter Tryz.func25, Tryz.ntmps25
    go_wp2
    go_ret
    exact ⟨ret_bool HE.out.symm, rfl⟩
set_option maxHeartbeats 1000000 in
theorem may7_any (n : Int) (w : World) : Calls Tryz.prog 25 #[.int .i64 7, .int .i64 n] w fun e w' => e = .returned (.bool (Rm.may 7 n)) ∧ w = w' := by
  have HM := Lib.hid (show Rm.may 7 n = true ↔ ¬ n = 0 ∧ -366 ≤ n ∧ n ≤ 366 by unfold Rm.may; simp [and_assoc])
  obtain ⟨q, hq⟩ : ∃ q, Rm.may 7 n = q := ⟨_, rfl⟩
  rw [hq] at HM ⊢
  clear hq
  by_cases h0 : n = 0
  · have HE : Hid (q = false) := Lib.hid (by cases hc : q; rfl; exact absurd h0 (HM.out.1 hc).1)
    clear HM
    subst h0
    go_enter Tryz.func25, Tryz.ntmps25
    go_wp2
    go_ret
    exact ⟨ret_bool HE.out.symm, rfl⟩
  · have hb0 : (n != 0) = true := by simpa using h0
    by_cases h1 : -366 ≤ n
    · skip
      by_cases h2 : n ≤ 366
      · skip
        have HE : Hid (q = true) := Lib.hid (by exact HM.out.2 ⟨h0, h1, h2⟩)
        clear HM
        go_enter Tryz.func25, Tryz.ntmps25
        go_wp2
        go_ret
        exact ⟨ret_bool HE.out.symm, rfl⟩
      · skip
        have HE : Hid (q = false) := Lib.hid (by cases hc : q; rfl; exact absurd (HM.out.1 hc).2.2 h2)
        clear HM
        go_enter Tryz.func25, Tryz.ntmps25
        go_wp2
        go_ret
        exact ⟨ret_bool HE.out.symm, rfl⟩
    · skip
      have HE : Hid (q = false) := Lib.hid (by cases hc : q; rfl; exact absurd (HM.out.1 hc).2.1 h1)
      clear HM
      go_enter Tryz.func25, Tryz.ntmps25
      go_wp2
      go_ret
      exact ⟨ret_bool HE.out.symm, rfl⟩
theorem may_any (i : Nat) (hi : i < 8) (n : Int) (w : World) : Calls Tryz.prog 25 #[.int .i64 (i : Int), .int .i64 n] w fun e w' => e = .returned (.bool (Rm.may i n)) ∧ w = w' := by
  rcases (show i = 0 ∨ i = 1 ∨ i = 2 ∨ i = 3 ∨ i = 4 ∨ i = 5 ∨ i = 6 ∨ i = 7 by omega) with rfl | rfl | rfl | rfl | rfl | rfl | rfl | rfl
  · exact may0_any n w
  · exact may1_any n w
  · exact may2_any n w
  · exact may3_any n w
  · exact may4_any n w
  · exact may5_any n w
  · exact may6_any n w
  · exact may7_any n w
set_option maxHeartbeats 1000000 in
theorem rmayDay_any (n d : Int) (w : World) : Calls Tryz.prog 26 #[.agg #[.int .i64 n, .int .i64 d]] w fun e w' => e = .returned (.bool (Rm.mayD (n, d))) ∧ Gr w w' := by
  have hg : Gr w (w.alloc (.cells #[.int .i64 n, .int .i64 d] 64)) := (Gr.refl w).allocO _
  have HM := Lib.hid (Rm.mayD_iff (p := (n, d)))
  obtain ⟨q, hq⟩ : ∃ q, Rm.mayD (n, d) = q := ⟨_, rfl⟩
  rw [hq] at HM ⊢
  clear hq
  by_cases h0 : 0 ≤ d
  · skip
    by_cases h1 : d ≤ 6
    · skip
      by_cases h2 : -53 ≤ n
      · skip
        by_cases h3 : n ≤ 53
        · skip
          have HE : Hid (q = true) := Lib.hid (by exact HM.out.2 ⟨h0, h1, h2, h3⟩)
          clear HM
          go_enter Tryz.func26, Tryz.ntmps26
          go_wp2
          go_ret
          exact ⟨ret_bool HE.out.symm, hg⟩
        · skip
          have HE : Hid (q = false) := Lib.hid (by cases hc : q; rfl; exact absurd (HM.out.1 hc).2.2.2 h3)
          clear HM
          go_enter Tryz.func26, Tryz.ntmps26
          go_wp2
          go_ret
          exact ⟨ret_bool HE.out.symm, hg⟩
      · skip
        have HE : Hid (q = false) := Lib.hid (by cases hc : q; rfl; exact absurd (HM.out.1 hc).2.2.1 h2)
        clear HM
        go_enter Tryz.func26, Tryz.ntmps26
        go_wp2
        go_ret
        exact ⟨ret_bool HE.out.symm, hg⟩
    · skip
      have HE : Hid (q = false) := Lib.hid (by cases hc : q; rfl; exact absurd (HM.out.1 hc).2.1 h1)
      clear HM
      go_enter Tryz.func26, Tryz.ntmps26
      go_wp2
      go_ret
      exact ⟨ret_bool HE.out.symm, hg⟩
  · skip
    have HE : Hid (q = false) := Lib.hid (by cases hc : q; rfl; exact absurd (HM.out.1 hc).1 h0)
    clear HM
    go_enter Tryz.func26, Tryz.ntmps26
    go_wp2
    go_ret
    exact ⟨ret_bool HE.out.symm, hg⟩
set_option maxHeartbeats 1000000 in
theorem rbefore_any (a b c d : Int) (w : World) : Calls Tryz.prog 27 #[.agg #[.int .i64 a, .int .i64 b], .agg #[.int .i64 c, .int .i64 d]] w fun e w' => e = .returned (.bool (Rm.bef (a, b) (c, d))) ∧ Gr w w' := by
  have hg : Gr w ((w.alloc (.cells #[.int .i64 a, .int .i64 b] 64)).alloc (.cells #[.int .i64 c, .int .i64 d] 64)) := ((Gr.refl w).allocO _).allocO _
  have HM := Lib.hid (Rm.bef_iff (a := (a, b)) (b := (c, d)))
  obtain ⟨q, hq⟩ : ∃ q, Rm.bef (a, b) (c, d) = q := ⟨_, rfl⟩
  rw [hq] at HM ⊢
  clear hq
  by_cases h0 : b < d
  · have HE : Hid (q = true) := Lib.hid (HM.out.2 (.inl h0))
    clear HM
    go_enter Tryz.func27, Tryz.ntmps27
    go_wp2
    go_ret
    exact ⟨ret_bool HE.out.symm, hg⟩
  · by_cases h1 : b = d
    · subst h1
      by_cases h2 : a < c
      · have HE : Hid (q = true) := Lib.hid (HM.out.2 (.inr ⟨rfl, h2⟩))
        clear HM
        go_enter Tryz.func27, Tryz.ntmps27
        go_wp2
        go_ret
        exact ⟨ret_bool HE.out.symm, hg⟩
      · have HE : Hid (q = false) := Lib.hid (by cases hc : q; rfl; rcases HM.out.1 hc with h | h; exact absurd h h0; exact absurd h.2 h2)
        clear HM
        go_enter Tryz.func27, Tryz.ntmps27
        go_wp2
        go_ret
        exact ⟨ret_bool HE.out.symm, hg⟩
    · have HE : Hid (q = false) := Lib.hid (by cases hc : q; rfl; rcases HM.out.1 hc with h | h; exact absurd h h0; exact absurd h.1 h1)
      have hb1 : (b == d) = false := beq_eq_false_iff_ne.2 h1
      clear HM
      go_enter Tryz.func27, Tryz.ntmps27
      go_wp2
      go_ret
      exact ⟨ret_bool HE.out.symm, hg⟩
end Go.Proofs.YtmbmkldcedkbmaaGreat
