/- The law RataAdds returns true. -/
import Derived.Test.YtchjickolljlcaaAwake
namespace Go.Proofs.Ytchjickolljlcaa
open Go.RowKit

set_option maxHeartbeats 1000000 in
theorem adds_walk (n k : Int) (w : World) :
    Calls Try.prog 7 #[.int .i64 n, .int .i64 k] w fun e w' => e = .returned (.bool true) ∧ Gr w w' := by
  cases h : Cal.dayB n
  · have H := Lib.hid h; clear h
    go_enter Try.func7, Try.ntmps7
    go_wp2_with fail
    refine (awake_any _).mono ?_
    rintro e w1 ⟨rfl, hb1⟩
    go_wp2_with fail
    refine (add_no _ _ _ (Or.inl H.out)).mono ?_
    rintro e w' ⟨rfl, rfl⟩
    go_wp2_with fail
    refine (in_any _ _).mono ?_
    rintro e w' ⟨rfl, rfl⟩
    rw [H.out]
    go_wp2
    go_ret
    exact ⟨rfl, hb1⟩
  · obtain ⟨n1, n2⟩ := Cal.dayB_iff.1 h
    have H := Lib.hid h; clear h
    by_cases k1 : k < -4000000
    · have hk : Cal.dayB (n + k) = false := by simp only [Cal.dayB, decide_eq_false_iff_not]; omega
      have HK := Lib.hid hk; clear hk
      go_enter Try.func7, Try.ntmps7
      go_wp2_with fail
      refine (awake_any _).mono ?_
      rintro e w1 ⟨rfl, hb1⟩
      go_wp2_with fail
      refine (add_no _ _ _ (Or.inr HK.out)).mono ?_
      rintro e w' ⟨rfl, rfl⟩
      go_wp2_with fail
      refine (in_any _ _).mono ?_
      rintro e w' ⟨rfl, rfl⟩
      rw [H.out]
      go_wp2
      go_ret
      exact ⟨rfl, hb1⟩
    · have d1 : decide (k < -4000000) = false := by simp; omega
      by_cases k2 : 4000000 < k
      · have hk : Cal.dayB (n + k) = false := by simp only [Cal.dayB, decide_eq_false_iff_not]; omega
        have HK := Lib.hid hk; clear hk
        go_enter Try.func7, Try.ntmps7
        go_wp2_with fail
        refine (awake_any _).mono ?_
        rintro e w1 ⟨rfl, hb1⟩
        go_wp2_with fail
        refine (add_no _ _ _ (Or.inr HK.out)).mono ?_
        rintro e w' ⟨rfl, rfl⟩
        go_wp2_with fail
        refine (in_any _ _).mono ?_
        rintro e w' ⟨rfl, rfl⟩
        rw [H.out]
        go_wp2
        go_ret
        exact ⟨rfl, hb1⟩
      · have d2 : decide (4000000 < k) = false := by simp; omega
        cases hk : Cal.dayB (n + k)
        · have HK := Lib.hid hk; clear hk
          go_enter Try.func7, Try.ntmps7
          go_wp2_with fail
          refine (awake_any _).mono ?_
          rintro e w1 ⟨rfl, hb1⟩
          go_wp2_with fail
          refine (add_no _ _ _ (Or.inr HK.out)).mono ?_
          rintro e w' ⟨rfl, rfl⟩
          go_wp2_with fail
          refine (in_any _ _).mono ?_
          rintro e w' ⟨rfl, rfl⟩
          rw [H.out]
          go_wp2_with fail
          refine (in_any _ _).mono ?_
          rintro e w' ⟨rfl, rfl⟩
          rw [HK.out]
          go_wp2
          go_ret
          exact ⟨rfl, hb1⟩
        · have HK := Lib.hid hk; clear hk
          have HB : Hid (Cal.dayB (n + k + -k) = true) := by show _ = _; rw [show n + k + -k = n by omega]; exact H.out
          go_enter Try.func7, Try.ntmps7
          go_wp2_with fail
          refine (awake_any _).mono ?_
          rintro e w1 ⟨rfl, hb1⟩
          go_wp2_with fail
          refine (add_yes _ _ _ H.out HK.out).mono ?_
          rintro e w' ⟨rfl, rfl⟩
          go_wp2_with fail
          refine (in_any _ _).mono ?_
          rintro e w' ⟨rfl, rfl⟩
          rw [H.out]
          go_wp2_with fail
          refine (in_any _ _).mono ?_
          rintro e w' ⟨rfl, rfl⟩
          rw [HK.out]
          go_wp2_with fail
          refine (add_yes _ _ _ HK.out HB.out).mono ?_
          rintro e w' ⟨rfl, rfl⟩
          rw [show n + k + -k = n by omega]
          go_wp2
          go_ret
          exact ⟨rfl, hb1⟩
end Go.Proofs.Ytchjickolljlcaa
