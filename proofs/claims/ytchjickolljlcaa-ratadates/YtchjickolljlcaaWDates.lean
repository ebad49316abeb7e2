/- The law RataDates returns true. -/
import Derived.Test.YtchjickolljlcaaRefGreg2
namespace Go.Proofs.Ytchjickolljlcaa
open Go.RowKit

set_option maxHeartbeats 1000000 in
theorem dates_no (n : Int) (w : World) (g1 : -9223372036854775808 ≤ n) (g2 : n ≤ 9223372036854775807) (h : Cal.dayB n = false) :
    Calls Try.prog 4 #[.int .i64 n] w fun e w' => e = .returned (.bool true) ∧ Gr w w' := by
  have H := Lib.hid h; clear h
  go_enter Try.func4, Try.ntmps4
  go_wp2_with fail
  refine (awake_any _).mono ?_
  rintro e w1 ⟨rfl, hb1⟩
  go_wp2_with fail
  refine (date_no _ _ H.out).mono ?_
  rintro e w2 ⟨rfl, hb2⟩
  go_wp2_with fail
  refine (refdate_no _ _ _ H.out).mono ?_
  rintro e w3 ⟨rfl, hb3⟩
  obtain ⟨c0, c1, c2⟩ := box3 hb3
  have z3 := hb3.lt
  simp at z3
  go_wp2_with fail
  refine (inyear_no _ _ H.out).mono ?_
  rintro e w' ⟨rfl, rfl⟩
  have hb4 := (Gr.refl w3).alloc #[.int .i64 0, .int .i64 0, .int .i64 0] 23
  obtain ⟨e0, e1, e2⟩ := box_now w3 (.int .i64 0) (.int .i64 0) (.int .i64 0) 23
  have k0 := hb4.keeps (by omega) c0
  have k1 := hb4.keeps (by omega) c1
  have k2 := hb4.keeps (by omega) c2
  clear c0 c1 c2
  generalize w3.alloc (.cells #[.int .i64 0, .int .i64 0, .int .i64 0] 23) = w4 at *
  generalize w3.heap.size = b3 at *
  go_wp2_with fail
  refine (of_any _ _).mono ?_
  rintro e w' ⟨rfl, rfl⟩
  rw [H.out]
  go_wp2_with fail
  refine (weekday_any _ _).mono ?_
  rintro e w' ⟨rfl, rfl⟩
  go_wp2_with fail
  refine (mod_any _ _ _ (by omega) (by omega) (by omega) (by omega)).mono ?_
  rintro e w' ⟨rfl, rfl⟩
  go_wp2
  go_ret
  exact ⟨rfl, (((hb1.trans hb2).alloc _ _).trans hb3).trans hb4⟩

set_option maxHeartbeats 1000000 in
theorem dates_yes (n : Int) (w : World) (h : Cal.dayB n = true) :
    Calls Try.prog 4 #[.int .i64 n] w fun e w' => e = .returned (.bool true) ∧ Gr w w' := by
  obtain ⟨n1, n2⟩ := Cal.dayB_iff.1 h
  have yb := Cal.yr_bd n1 n2
  have lb := Cal.dby_bd (a := Cal.yr n) (by omega) (by omega)
  have HE : Hid (Cal.num (Cal.yr n) 1 1 = Cal.dby (Cal.yr n) + 1) := by show _ = _; unfold Cal.num; rw [Cal.cum_1]; omega
  have HQ : Hid ((n - Cal.dby (Cal.yr n) == n - (Cal.dby (Cal.yr n) + 1) + 1) = true) := by show _ = _; simp; omega
  have H := Lib.hid h; clear h
  go_enter Try.func4, Try.ntmps4
  go_wp2_with fail
  refine (awake_any _).mono ?_
  rintro e w1 ⟨rfl, hb1⟩
  go_wp2_with fail
  refine (date_yes _ _ H.out).mono ?_
  rintro e w2 ⟨rfl, hb2⟩
  go_wp2_with fail
  refine (refdate0_yes _ _ H.out).mono ?_
  rintro e w3 ⟨rfl, hb3⟩
  obtain ⟨c0, c1, c2⟩ := box3 hb3
  have z3 := hb3.lt
  simp at z3
  go_wp2_with fail
  refine (inyear_yes _ _ H.out).mono ?_
  rintro e w' ⟨rfl, rfl⟩
  have hb4 := (Gr.refl w3).alloc #[.int .i64 (Cal.yr n), .int .i64 (Cal.mon n), .int .i64 (Cal.dom n)] 23
  obtain ⟨e0, e1, e2⟩ := box_now w3 (.int .i64 (Cal.yr n)) (.int .i64 (Cal.mon n)) (.int .i64 (Cal.dom n)) 23
  have k0 := hb4.keeps (by omega) c0
  have k1 := hb4.keeps (by omega) c1
  have k2 := hb4.keeps (by omega) c2
  clear c0 c1 c2
  generalize w3.alloc (.cells #[.int .i64 (Cal.yr n), .int .i64 (Cal.mon n), .int .i64 (Cal.dom n)] 23) = w4 at *
  generalize w3.heap.size = b3 at *
  go_wp2_with fail
  refine (of_any _ _).mono ?_
  rintro e w' ⟨rfl, rfl⟩
  rw [H.out]
  go_wp2_with fail
  refine (weekday_any _ _).mono ?_
  rintro e w' ⟨rfl, rfl⟩
  go_wp2_with fail
  refine (mod_any _ _ _ (by omega) (by omega) (by omega) (by omega)).mono ?_
  rintro e w' ⟨rfl, rfl⟩
  go_wp2_with fail
  refine (fixed0_any _ _ _ _ (by omega) (by omega) (by omega) (by omega) (by omega) (by omega)).mono ?_
  rintro e w' ⟨rfl, rfl⟩
  rw [HE.out]
  go_wp2
  go_ret
  exact ⟨ret_bool HQ.out, (((hb1.trans hb2).alloc _ _).trans hb3).trans hb4⟩
theorem dates_walk (n : Int) (w : World) (g1 : -9223372036854775808 ≤ n) (g2 : n ≤ 9223372036854775807) :
    Calls Try.prog 4 #[.int .i64 n] w fun e w' => e = .returned (.bool true) ∧ Gr w w' := by
  cases h : Cal.dayB n
  · exact dates_no n w g1 g2 h
  · exact dates_yes n w h
end Go.Proofs.Ytchjickolljlcaa
