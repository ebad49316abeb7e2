/- What iso.Week, First, Weeks, ISO and FromISO return. -/
import Derived.Test.YtcgcdolafooffaaIsoLeaf
namespace Go.Proofs.Ytcgcdolafooffaa.Iso
open Go.RowKit

set_option maxHeartbeats 400000 in
theorem first_far (y s : Int) (w : World) (h : y < 0 ∨ 10000 < y) :
    Calls Try.prog 16 #[.int .i64 y, .int .i64 s] w fun e w' => e = .returned (.tuple #[.int .i64 0, .int .i64 2]) ∧ w = w' := by
  by_cases h0 : y < 0
  · clear h
    go_enter Try.func16, Try.ntmps16
    go_wp2
    go_ret2
    exact ⟨rfl, rfl⟩
  · have h1 : 10000 < y := by omega
    have b0 : decide (y < 0) = false := by simp; omega
    clear h
    go_enter Try.func16, Try.ntmps16
    go_wp2
    go_ret2
    exact ⟨rfl, rfl⟩
set_option maxHeartbeats 400000 in
theorem first_arg (y s : Int) (w : World) (y0 : 0 ≤ y) (y1 : y ≤ 10000) (h : stB s = false) :
    Calls Try.prog 16 #[.int .i64 y, .int .i64 s] w fun e w' => e = .returned (.tuple #[.int .i64 0, .int .i64 1]) ∧ w = w' := by
  have b0 : decide (y < 0) = false := by simp; omega
  have b1 : decide (10000 < y) = false := by simp; omega
  have H := Lib.hid h; clear h
  go_enter Try.func16, Try.ntmps16
  go_wp2_with fail
  refine (isweekday_any _ _).mono ?_
  rintro e w' ⟨rfl, rfl⟩
  rw [H.out]
  go_wp2
  go_ret2
  exact ⟨rfl, rfl⟩
set_option maxHeartbeats 400000 in
theorem first_yes (y s : Int) (w : World) (y0 : 0 ≤ y) (y1 : y ≤ 10000) (h : stB s = true) :
    Calls Try.prog 16 #[.int .i64 y, .int .i64 s] w fun e w' => e = .returned (.tuple #[.int .i64 (w1 y s), .int .i64 0]) ∧ Gr w w' := by
  obtain ⟨s0, s1⟩ := stB_iff.1 h
  have b0 : decide (y < 0) = false := by simp; omega
  have b1 : decide (10000 < y) = false := by simp; omega
  have H := Lib.hid h; clear h
  go_enter Try.func16, Try.ntmps16
  go_wp2_with fail
  refine (isweekday_any _ _).mono ?_
  rintro e w' ⟨rfl, rfl⟩
  rw [H.out]
  go_wp2_with fail
  refine (first_any _ _ _ y0 y1 s0 (by omega)).mono ?_
  rintro e w1 ⟨rfl, hb⟩
  go_wp2
  go_ret2
  exact ⟨rfl, hb⟩

set_option maxHeartbeats 400000 in
theorem weeks_far (y s : Int) (w : World) (h : y < 0 ∨ 9999 < y) :
    Calls Try.prog 17 #[.int .i64 y, .int .i64 s] w fun e w' => e = .returned (.tuple #[.int .i64 0, .int .i64 2]) ∧ w = w' := by
  by_cases h0 : y < 0
  · clear h
    go_enter Try.func17, Try.ntmps17
    go_wp2
    go_ret2
    exact ⟨rfl, rfl⟩
  · have h1 : 9999 < y := by omega
    have b0 : decide (y < 0) = false := by simp; omega
    clear h
    go_enter Try.func17, Try.ntmps17
    go_wp2
    go_ret2
    exact ⟨rfl, rfl⟩
set_option maxHeartbeats 400000 in
theorem weeks_arg (y s : Int) (w : World) (y0 : 0 ≤ y) (y1 : y ≤ 9999) (h : stB s = false) :
    Calls Try.prog 17 #[.int .i64 y, .int .i64 s] w fun e w' => e = .returned (.tuple #[.int .i64 0, .int .i64 1]) ∧ w = w' := by
  have b0 : decide (y < 0) = false := by simp; omega
  have b1 : decide (9999 < y) = false := by simp; omega
  have H := Lib.hid h; clear h
  go_enter Try.func17, Try.ntmps17
  go_wp2_with fail
  refine (isweekday_any _ _).mono ?_
  rintro e w' ⟨rfl, rfl⟩
  rw [H.out]
  go_wp2
  go_ret2
  exact ⟨rfl, rfl⟩
/- how many weeks a year has -/
def nw (y s : Int) : Int := (w1 (y + 1) s - w1 y s) / 7
theorem nw_cases (y : Int) {s : Int} (h0 : 0 ≤ s) (h1 : s ≤ 6) : nw y s = 52 ∨ nw y s = 53 := by
  have := w1_step y h0 h1; unfold nw; omega
set_option maxHeartbeats 400000 in
theorem weeks_yes (y s : Int) (w : World) (y0 : 0 ≤ y) (y1 : y ≤ 9999) (h : stB s = true) :
    Calls Try.prog 17 #[.int .i64 y, .int .i64 s] w fun e w' => e = .returned (.tuple #[.int .i64 (nw y s), .int .i64 0]) ∧ Gr w w' := by
  obtain ⟨s0, s1⟩ := stB_iff.1 h
  have b0 : decide (y < 0) = false := by simp; omega
  have b1 : decide (9999 < y) = false := by simp; omega
  have c1 := w1_bdw s (a := y) (by omega) (by omega)
  have c2 := w1_bdw s (a := y + 1) (by omega) (by omega)
  have st := w1_step y (s := s) (by omega) (by omega)
  have c3 : 0 ≤ w1 (y + 1) s - w1 y s := by omega
  clear st
  have H := Lib.hid h; clear h
  go_enter Try.func17, Try.ntmps17
  go_wp2_with fail
  refine (isweekday_any _ _).mono ?_
  rintro e w' ⟨rfl, rfl⟩
  rw [H.out]
  go_wp2_with fail
  refine (first_any _ _ _ (by omega) (by omega) s0 (by omega)).mono ?_
  rintro e w1 ⟨rfl, hb⟩
  go_wp2_with fail
  refine (first_any _ _ _ (by omega) (by omega) s0 (by omega)).mono ?_
  rintro e w2 ⟨rfl, hb2⟩
  go_wp2
  go_ret2
  exact ⟨rfl, hb.trans hb2⟩

set_option maxHeartbeats 400000 in
theorem week_no (n s : Int) (w : World) (h : Cal.dayB n = false) :
    Calls Try.prog 15 #[.int .i64 n, .int .i64 s] w fun e w' => e = .returned (.tuple #[.int .i64 0, .int .i64 0, .int .i64 2]) ∧ Gr w w' := by
  have H := Lib.hid h; clear h
  go_enter Try.func15, Try.ntmps15
  go_wp2_with fail
  refine (Go.Proofs.Ytcgcdolafooffaa.date_no _ _ H.out).mono ?_
  rintro e w1 ⟨rfl, hb⟩
  go_wp2
  go_ret3
  exact ⟨rfl, hb.alloc _ _⟩
set_option maxHeartbeats 400000 in
theorem week_arg (n s : Int) (w : World) (h : Cal.dayB n = true) (h2 : stB s = false) :
    Calls Try.prog 15 #[.int .i64 n, .int .i64 s] w fun e w' => e = .returned (.tuple #[.int .i64 0, .int .i64 0, .int .i64 1]) ∧ Gr w w' := by
  have H := Lib.hid h; clear h
  have H2 := Lib.hid h2; clear h2
  go_enter Try.func15, Try.ntmps15
  go_wp2_with fail
  refine (Go.Proofs.Ytcgcdolafooffaa.date_yes _ _ H.out).mono ?_
  rintro e w1 ⟨rfl, hb⟩
  go_wp2_with fail
  refine (isweekday_any _ _).mono ?_
  rintro e w' ⟨rfl, rfl⟩
  rw [H2.out]
  go_wp2
  go_ret3
  exact ⟨rfl, hb.alloc _ _⟩
set_option maxHeartbeats 1000000 in
theorem week_yes (n s : Int) (w : World) (h : Cal.dayB n = true) (h2 : stB s = true) :
    Calls Try.prog 15 #[.int .i64 n, .int .i64 s] w fun e w' => e = .returned (.tuple #[.int .i64 (wy s n), .int .i64 (wn s n), .int .i64 0]) ∧ Gr w w' := by
  obtain ⟨s0, s1⟩ := stB_iff.1 h2
  obtain ⟨n1, n2⟩ := Cal.dayB_iff.1 h
  have yb := Cal.yr_bd n1 n2
  have sp := wy_spec s n
  have nr := wy_near s n
  have c1 := w1_bdw s (a := wy s n) (by omega) (by omega)
  have SP := Lib.hid sp.2
  have sp1 := sp.1
  have WN : Hid ((n - w1 (wy s n) s) / 7 + 1 = wn s n) := rfl
  have H := Lib.hid h; have H2 := Lib.hid h2; clear h h2 sp
  by_cases a : n < w1 (Cal.yr n) s
  · have e : wy s n = Cal.yr n - 1 := by unfold wy; rw [if_pos a]
    rw [← WN.out]
    rw [e] at c1 sp1 ⊢
    clear e WN
    go_enter Try.func15, Try.ntmps15
    go_wp2_with fail
    refine (Go.Proofs.Ytcgcdolafooffaa.date_yes _ _ H.out).mono ?_
    rintro e w1 ⟨rfl, hb⟩
    go_wp2_with fail
    refine (isweekday_any _ _).mono ?_
    rintro e w' ⟨rfl, rfl⟩
    rw [H2.out]
    obtain ⟨e0, e1, e2⟩ := box_now w1 (.int .i64 (Cal.yr n)) (.int .i64 (Cal.mon n)) (.int .i64 (Cal.dom n)) 24
    go_wp2_with fail
    refine (first_any _ _ _ (by omega) (by omega) s0 (by omega)).mono ?_
    rintro e w2 ⟨rfl, hb2⟩
    go_wp2_with fail
    refine (first_any _ _ _ (by omega) (by omega) s0 (by omega)).mono ?_
    rintro e w3 ⟨rfl, hb3⟩
    go_wp2
    go_ret3
    exact ⟨rfl, ((hb.alloc _ _).trans hb2).trans hb3⟩
  · have a' : decide (n < w1 (Cal.yr n) s) = false := by simp; omega
    by_cases b : w1 (Cal.yr n + 1) s ≤ n
    · have e : wy s n = Cal.yr n + 1 := by unfold wy; rw [if_neg a, if_pos b]
      rw [← WN.out]
      rw [e] at c1 sp1 ⊢
      clear e WN
      go_enter Try.func15, Try.ntmps15
      go_wp2_with fail
      refine (Go.Proofs.Ytcgcdolafooffaa.date_yes _ _ H.out).mono ?_
      rintro e w1 ⟨rfl, hb⟩
      go_wp2_with fail
      refine (isweekday_any _ _).mono ?_
      rintro e w' ⟨rfl, rfl⟩
      rw [H2.out]
      obtain ⟨e0, e1, e2⟩ := box_now w1 (.int .i64 (Cal.yr n)) (.int .i64 (Cal.mon n)) (.int .i64 (Cal.dom n)) 24
      go_wp2_with fail
      refine (first_any _ _ _ (by omega) (by omega) s0 (by omega)).mono ?_
      rintro e w2 ⟨rfl, hb2⟩
      go_wp2_with fail
      refine (first_any _ _ _ (by omega) (by omega) s0 (by omega)).mono ?_
      rintro e w3 ⟨rfl, hb3⟩
      go_wp2_with fail
      refine (first_any _ _ _ (by omega) (by omega) s0 (by omega)).mono ?_
      rintro e w4 ⟨rfl, hb4⟩
      go_wp2
      go_ret3
      exact ⟨rfl, (((hb.alloc _ _).trans hb2).trans hb3).trans hb4⟩
    · have e : wy s n = Cal.yr n := by unfold wy; rw [if_neg a, if_neg b]
      have b' : decide (w1 (Cal.yr n + 1) s ≤ n) = false := by simp; omega
      rw [← WN.out]
      rw [e] at c1 sp1 ⊢
      clear e WN
      go_enter Try.func15, Try.ntmps15
      go_wp2_with fail
      refine (Go.Proofs.Ytcgcdolafooffaa.date_yes _ _ H.out).mono ?_
      rintro e w1 ⟨rfl, hb⟩
      go_wp2_with fail
      refine (isweekday_any _ _).mono ?_
      rintro e w' ⟨rfl, rfl⟩
      rw [H2.out]
      obtain ⟨e0, e1, e2⟩ := box_now w1 (.int .i64 (Cal.yr n)) (.int .i64 (Cal.mon n)) (.int .i64 (Cal.dom n)) 24
      go_wp2_with fail
      refine (first_any _ _ _ (by omega) (by omega) s0 (by omega)).mono ?_
      rintro e w2 ⟨rfl, hb2⟩
      go_wp2_with fail
      refine (first_any _ _ _ (by omega) (by omega) s0 (by omega)).mono ?_
      rintro e w3 ⟨rfl, hb3⟩
      go_wp2_with fail
      refine (first_any _ _ _ (by omega) (by omega) s0 (by omega)).mono ?_
      rintro e w4 ⟨rfl, hb4⟩
      go_wp2
      go_ret3
      exact ⟨rfl, (((hb.alloc _ _).trans hb2).trans hb3).trans hb4⟩
end Go.Proofs.Ytcgcdolafooffaa.Iso
