/- The walk of ClockAdds. -/
import Derived.Test.YtemnpnjobjeliaaDoorAwClk
namespace Go.Proofs.YtemnpnjobjeliaaDoor
open Go.RowKit

set_option maxHeartbeats 1000000 in
theorem clockadds_yes (a n : Int) (w : World) (ht : Tab w) (h : Clk.okB a = true) (hk : Clk.okB (a + n) = true) :
    Calls Tryd.prog 7 #[.int .i64 a, .int .i64 n] w fun e w' => e = .returned (.bool true) ∧ Gr w w' := by
  obtain ⟨n1, n2⟩ := Clk.okB_iff.1 h
  obtain ⟨k1, k2⟩ := Clk.okB_iff.1 hk
  have hb : Clk.okB (a + n + -n) = true := by rw [show a + n + -n = a by omega]; exact h
  have b1 : decide (1099511627776 < n) = false := by simp; omega
  have b2 : decide (n < -1099511627776) = false := by simp; omega
  have H := Lib.hid h; have HK := Lib.hid hk; have HB := Lib.hid hb; clear h hk hb
  go_enter Tryd.func7, Tryd.ntmps7
  go_wp2_with fail
  refine (awake_any _ ht).mono ?_
  rintro e w1 ⟨rfl, hb⟩
  go_wp2_with fail
  refine (cadd_yes _ _ _ H.out HK.out).mono ?_
  rintro e w' ⟨rfl, rfl⟩
  go_wp2_with fail
  refine (rright_any _ _).mono ?_
  rintro e w' ⟨rfl, rfl⟩
  rw [H.out]
  go_wp2_with fail
  refine (rright_any _ _).mono ?_
  rintro e w' ⟨rfl, rfl⟩
  rw [HK.out]
  go_wp2_with fail
  refine (cadd_yes _ _ _ HK.out HB.out).mono ?_
  rintro e w' ⟨rfl, rfl⟩
  go_wp2
  go_ret
  exact ⟨ret_bool (by simp; omega), hb⟩
set_option maxHeartbeats 1000000 in
theorem clockadds_at (a n : Int) (w : World) (ht : Tab w) (h : Clk.okB a = false) :
    Calls Tryd.prog 7 #[.int .i64 a, .int .i64 n] w fun e w' => e = .returned (.bool true) ∧ Gr w w' := by
  have H := Lib.hid h; clear h
  go_enter Tryd.func7, Tryd.ntmps7
  go_wp2_with fail
  refine (awake_any _ ht).mono ?_
  rintro e w1 ⟨rfl, hb⟩
  go_wp2_with fail
  refine (cadd_no _ _ _ (.inl H.out)).mono ?_
  rintro e w' ⟨rfl, rfl⟩
  go_wp2_with fail
  refine (rright_any _ _).mono ?_
  rintro e w' ⟨rfl, rfl⟩
  rw [H.out]
  go_wp2
  go_ret
  exact ⟨rfl, hb⟩
set_option maxHeartbeats 1000000 in
theorem clockadds_n (a n : Int) (w : World) (ht : Tab w) (h : Clk.okB a = true) (hk : Clk.okB (a + n) = false) :
    Calls Tryd.prog 7 #[.int .i64 a, .int .i64 n] w fun e w' => e = .returned (.bool true) ∧ Gr w w' := by
  obtain ⟨n1, n2⟩ := Clk.okB_iff.1 h
  have H := Lib.hid h; have HK := Lib.hid hk; clear h hk
  by_cases b1 : 1099511627776 < n
  · go_enter Tryd.func7, Tryd.ntmps7
    go_wp2_with fail
    refine (awake_any _ ht).mono ?_
    rintro e w1 ⟨rfl, hb⟩
    go_wp2_with fail
    refine (cadd_no _ _ _ (.inr HK.out)).mono ?_
    rintro e w' ⟨rfl, rfl⟩
    go_wp2_with fail
    refine (rright_any _ _).mono ?_
    rintro e w' ⟨rfl, rfl⟩
    rw [H.out]
    go_wp2
    go_ret
    exact ⟨rfl, hb⟩
  · have b1' : decide (1099511627776 < n) = false := by simp; omega
    by_cases b2 : n < -1099511627776
    · clear b1
      go_enter Tryd.func7, Tryd.ntmps7
      go_wp2_with fail
      refine (awake_any _ ht).mono ?_
      rintro e w1 ⟨rfl, hb⟩
      go_wp2_with fail
      refine (cadd_no _ _ _ (.inr HK.out)).mono ?_
      rintro e w' ⟨rfl, rfl⟩
      go_wp2_with fail
      refine (rright_any _ _).mono ?_
      rintro e w' ⟨rfl, rfl⟩
      rw [H.out]
      go_wp2
      go_ret
      exact ⟨rfl, hb⟩
    · have b2' : decide (n < -1099511627776) = false := by simp; omega
      have n3 : n ≤ 1099511627776 := by omega
      have n4 : -1099511627776 ≤ n := by omega
      clear b1 b2
      go_enter Tryd.func7, Tryd.ntmps7
      go_wp2_with fail
      refine (awake_any _ ht).mono ?_
      rintro e w1 ⟨rfl, hb⟩
      go_wp2_with fail
      refine (cadd_no _ _ _ (.inr HK.out)).mono ?_
      rintro e w' ⟨rfl, rfl⟩
      go_wp2_with fail
      refine (rright_any _ _).mono ?_
      rintro e w' ⟨rfl, rfl⟩
      rw [H.out]
      go_wp2_with fail
      refine (rright_any _ _).mono ?_
      rintro e w' ⟨rfl, rfl⟩
      rw [HK.out]
      go_wp2
      go_ret
      exact ⟨rfl, hb⟩
theorem clockadds_any (a n : Int) (w : World) (ht : Tab w) :
    Calls Tryd.prog 7 #[.int .i64 a, .int .i64 n] w fun e w' => e = .returned (.bool true) ∧ Gr w w' := by
  rcases h : Clk.okB a
  · exact clockadds_at a n w ht h
  · rcases hk : Clk.okB (a + n)
    · exact clockadds_n a n w ht h hk
    · exact clockadds_yes a n w ht h hk
end Go.Proofs.YtemnpnjobjeliaaDoor
