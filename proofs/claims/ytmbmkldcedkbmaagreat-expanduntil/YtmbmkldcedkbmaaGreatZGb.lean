/- The texts IsoLeaf, IsoFn, one behind the other. -/
import Derived.Test.YtmbmkldcedkbmaaGreatZB
import Derived.Test.YtmbmkldcedkbmaaGreatZIsoCal
namespace Go.Proofs.YtmbmkldcedkbmaaGreat.Iso
open Go.RowKit

def stB (s : Int) : Bool := decide (0 ≤ s ∧ s < 7)
theorem stB_iff {s : Int} : stB s = true ↔ (0 ≤ s ∧ s < 7) := by unfold stB; simp
set_option maxHeartbeats 400000 in
theorem isweekday_any (s : Int) (w : World) :
    Calls Tryz.prog 161 #[.int .i64 s] w fun e w' => e = .returned (.bool (stB s)) ∧ w = w' := by
  go_enter Tryz.func161, Tryz.ntmps161
  go_wp2
  all_goals go_ret
  all_goals refine ⟨ret_bool ?_, rfl⟩
  all_goals rw [Bool.eq_iff_iff, stB_iff]
  all_goals simp
  all_goals omega
theorem since_eq (n s : Int) : (n % 7 - s + 7) % 7 = (n - s) % 7 := by omega
set_option maxHeartbeats 400000 in
theorem since_any (n s : Int) (w : World) (s0 : 0 ≤ s) (s1 : s ≤ 6) :
    Calls Tryz.prog 166 #[.int .i64 n, .int .i64 s] w fun e w' => e = .returned (.int .i64 ((n - s) % 7)) ∧ w = w' := by
  have b1 : 0 ≤ n % 7 := by omega
  have b2 : n % 7 ≤ 6 := by omega
  have HE := Lib.hid (since_eq n s)
  go_enter Tryz.func166, Tryz.ntmps166
  go_wp2_with fail
  refine (weekday_any _ _).mono ?_
  rintro e w' ⟨rfl, rfl⟩
  go_wp2
  go_ret
  exact ⟨ret_int HE.out, rfl⟩
theorem new_eq (y : Int) : Cal.num y 1 1 = Cal.dby y + 1 := by unfold Cal.num; rw [Cal.cum_1]; omega
theorem new_ok {y : Int} (h1 : 1 ≤ y) (h2 : y ≤ 9999) : Cal.okB y 1 1 = true := by
  rw [Cal.okB_iff]; have := Cal.dim_lo y (m := 1) (by omega) (by omega); omega
set_option maxHeartbeats 400000 in
theorem newyear_any (y : Int) (w : World) (y0 : 0 ≤ y) (y1 : y ≤ 10000) :
    Calls Tryz.prog 165 #[.int .i64 y] w fun e w' => e = .returned (.int .i64 (Cal.dby y + 1)) ∧ Gr w w' := by
  by_cases h0 : y = 0
  · subst h0
    go_enter Tryz.func165, Tryz.ntmps165
    go_wp2
    go_ret
    exact ⟨ret_int (by decide), Gr.refl _⟩
  · by_cases h1 : y = 10000
    · subst h1
      go_enter Tryz.func165, Tryz.ntmps165
      go_wp2
      go_ret
      exact ⟨ret_int (by decide), Gr.refl _⟩
    · have b0 : (y == 0) = false := by simpa using h0
      have b1 : (y == 10000) = false := by simpa using h1
      have HO := Lib.hid (new_ok (y := y) (by omega) (by omega))
      have HE := Lib.hid (new_eq y)
      go_enter Tryz.func165, Tryz.ntmps165
      go_wp2_with fail
      refine (day_yes _ _ _ _ HO.out).mono ?_
      rintro e w1 ⟨rfl, hb⟩
      go_wp2
      go_ret
      exact ⟨ret_int HE.out, hb⟩
set_option maxHeartbeats 400000 in
theorem first_any (y s : Int) (w : World) (y0 : 0 ≤ y) (y1 : y ≤ 10000) (s0 : 0 ≤ s) (s1 : s ≤ 6) :
    Calls Tryz.prog 162 #[.int .i64 y, .int .i64 s] w fun e w' => e = .returned (.int .i64 (w1 y s)) ∧ Gr w w' := by
  have b := Cal.dby_bdw (a := y) (by omega) (by omega)
  have HE : Hid (Cal.dby y + 1 + 3 - (Cal.dby y + 1 + 3 - s) % 7 = w1 y s) := by
    show _ = _
    rw [show Cal.dby y + 1 + 3 = Cal.dby y + 4 by omega]; rfl
  go_enter Tryz.func162, Tryz.ntmps162
  go_wp2_with fail
  refine (newyear_any _ _ y0 y1).mono ?_
  rintro e w1 ⟨rfl, hb⟩
  go_wp2_with fail
  refine (since_any _ _ _ s0 s1).mono ?_
  rintro e w' ⟨rfl, rfl⟩
  go_wp2
  go_ret
  exact ⟨ret_int HE.out, hb⟩
end Go.Proofs.YtmbmkldcedkbmaaGreat.Iso
namespace Go.Proofs.YtmbmkldcedkbmaaGreat.Iso
open Go.RowKit

set_option maxHeartbeats 400000 in
theorem weeks_far (y s : Int) (w : World) (h : y < 0 ∨ 9999 < y) :
    Calls Tryz.prog 150 #[.int .i64 y, .int .i64 s] w fun e w' => e = .returned (.tuple #[.int .i64 0, .int .i64 2]) ∧ w = w' := by
  by_cases h0 : y < 0
  · clear h
    go_enter Tryz.func150, Tryz.ntmps150
    go_wp2
    go_ret2
    exact ⟨rfl, rfl⟩
  · have h1 : 9999 < y := by omega
    have b0 : decide (y < 0) = false := by simp; omega
    clear h
    go_enter Tryz.func150, Tryz.ntmps150
    go_wp2
    go_ret2
    exact ⟨rfl, rfl⟩
set_option maxHeartbeats 400000 in
theorem weeks_arg (y s : Int) (w : World) (y0 : 0 ≤ y) (y1 : y ≤ 9999) (h : stB s = false) :
    Calls Tryz.prog 150 #[.int .i64 y, .int .i64 s] w fun e w' => e = .returned (.tuple #[.int .i64 0, .int .i64 1]) ∧ w = w' := by
  have b0 : decide (y < 0) = false := by simp; omega
  have b1 : decide (9999 < y) = false := by simp; omega
  have H := Lib.hid h; clear h
  go_enter Tryz.func150, Tryz.ntmps150
  go_wp2_with fail
  refine (isweekday_any _ _).mono ?_
  rintro e w' ⟨rfl, rfl⟩
  rw [H.out]
  go_wp2
  go_ret2
  exact ⟨rfl, rfl⟩
/- how many weeks a year has -/
def nw (y s : Int) : Int := (w1 (y + 1) s - w1 y s) / 7
theorem nw_cases (y : Int) {s : Int} (h0 : 0 ≤ s) (h1 : s ≤ 6) : nw y s = 52 ∨ nw y s = 53 := by
  have := w1_step y h0 h1; unfold nw; omega
set_option maxHeartbeats 400000 in
theorem weeks_yes (y s : Int) (w : World) (y0 : 0 ≤ y) (y1 : y ≤ 9999) (h : stB s = true) :
    Calls Tryz.prog 150 #[.int .i64 y, .int .i64 s] w fun e w' => e = .returned (.tuple #[.int .i64 (nw y s), .int .i64 0]) ∧ Gr w w' := by
  obtain ⟨s0, s1⟩ := stB_iff.1 h
  have b0 : decide (y < 0) = false := by simp; omega
  have b1 : decide (9999 < y) = false := by simp; omega
  have c1 := w1_bdw s (a := y) (by omega) (by omega)
  have c2 := w1_bdw s (a := y + 1) (by omega) (by omega)
  have st := w1_step y (s := s) (by omega) (by omega)
  have c3 : 0 ≤ w1 (y + 1) s - w1 y s := by omega
  clear st
  have H := Lib.hid h; clear h
  go_enter Tryz.func150, Tryz.ntmps150
  go_wp2_with fail
  refine (isweekday_any _ _).mono ?_
  rintro e w' ⟨rfl, rfl⟩
  rw [H.out]
  go_wp2_with fail
  refine (first_any _ _ _ (by omega) (by omega) s0 (by omega)).mono ?_
  rintro e w1 ⟨rfl, hb⟩
  go_wp2_with fail
  refine (first_any _ _ _ (by omega) (by omega) s0 (by omega)).mono ?_
  rintro e w2 ⟨rfl, hb2⟩
  go_wp2
  go_ret2
  exact ⟨rfl, hb.trans hb2⟩

set_option maxHeartbeats 400000 in
theorem week_no (n s : Int) (w : World) (h : Cal.dayB n = false) :
    Calls Tryz.prog 149 #[.int .i64 n, .int .i64 s] w fun e w' => e = .returned (.tuple #[.int .i64 0, .int .i64 0, .int .i64 2]) ∧ Gr w w' := by
  have H := Lib.hid h; clear h
  go_enter Tryz.func149, Tryz.ntmps149
  go_wp2_with fail
  refine (Go.Proofs.YtmbmkldcedkbmaaGreat.date_no _ _ H.out).mono ?_
  rintro e w1 ⟨rfl, hb⟩
  go_wp2
  go_ret3
  exact ⟨rfl, hb.alloc _ _⟩
set_option maxHeartbeats 400000 in
theorem week_arg (n s : Int) (w : World) (h : Cal.dayB n = true) (h2 : stB s = false) :
    Calls Tryz.prog 149 #[.int .i64 n, .int .i64 s] w fun e w' => e = .returned (.tuple #[.int .i64 0, .int .i64 0, .int .i64 1]) ∧ Gr w w' := by
  have H := Lib.hid h; clear h
  have H2 := Lib.hid h2; clear h2
  go_enter Tryz.func149, Tryz.ntmps149
  go_wp2_with fail
  refine (Go.Proofs.YtmbmkldcedkbmaaGreat.date_yes _ _ H.out).mono ?_
  rintro e w1 ⟨rfl, hb⟩
  go_wp2_with fail
  refine (isweekday_any _ _).mono ?_
  rintro e w' ⟨rfl, rfl⟩
  rw [H2.out]
  go_wp2
  go_ret3
  exact ⟨rfl, hb.alloc _ _⟩
set_option maxHeartbeats 1000000 in
theorem week_yes (n s : Int) (w : World) (h : Cal.dayB n = true) (h2 : stB s = true) :
    Calls Tryz.prog 149 #[.int .i64 n, .int .i64 s] w fun e w' => e = .returned (.tuple #[.int .i64 (wy s n), .int .i64 (wn s n), .int .i64 0]) ∧ Gr w w' := by
  obtain ⟨s0, s1⟩ := stB_iff.1 h2
  obtain ⟨n1, n2⟩ := Cal.dayB_iff.1 h
  have yb := Cal.yr_bd n1 n2
  have sp := wy_spec s n
  have nr := wy_near s n
  have c1 := w1_bdw s (a := wy s n) (by omega) (by omega)
  have SP := Lib.hid sp.2
  have sp1 := sp.1
  have WN : Hid ((n - w1 (wy s n) s) / 7 + 1 = wn s n) := rfl
  have H := Lib.hid h; have H2 := Lib.hid h2; clear h h2 sp
  by_cases a : n < w1 (Cal.yr n) s
  · have e : wy s n = Cal.yr n - 1 := by unfold wy; rw [if_pos a]
    rw [← WN.out]
    rw [e] at c1 sp1 ⊢
    clear e WN
    go_enter Tryz.func149, Tryz.ntmps149
    go_wp2_with fail
    refine (Go.Proofs.YtmbmkldcedkbmaaGreat.date_yes _ _ H.out).mono ?_
    rintro e w1 ⟨rfl, hb⟩
    go_wp2_with fail
    refine (isweekday_any _ _).mono ?_
    rintro e w' ⟨rfl, rfl⟩
    rw [H2.out]
    obtain ⟨e0, e1, e2⟩ := box_now w1 (.int .i64 (Cal.yr n)) (.int .i64 (Cal.mon n)) (.int .i64 (Cal.dom n)) 85
    go_wp2_with fail
    refine (first_any _ _ _ (by omega) (by omega) s0 (by omega)).mono ?_
    rintro e w2 ⟨rfl, hb2⟩
    go_wp2_with fail
    refine (first_any _ _ _ (by omega) (by omega) s0 (by omega)).mono ?_
    rintro e w3 ⟨rfl, hb3⟩
    go_wp2
    go_ret3
    exact ⟨rfl, ((hb.alloc _ _).trans hb2).trans hb3⟩
  · have a' : decide (n < w1 (Cal.yr n) s) = false := by simp; omega
    by_cases b : w1 (Cal.yr n + 1) s ≤ n
    · have e : wy s n = Cal.yr n + 1 := by unfold wy; rw [if_neg a, if_pos b]
      rw [← WN.out]
      rw [e] at c1 sp1 ⊢
      clear e WN
      go_enter Tryz.func149, Tryz.ntmps149
      go_wp2_with fail
      refine (Go.Proofs.YtmbmkldcedkbmaaGreat.date_yes _ _ H.out).mono ?_
      rintro e w1 ⟨rfl, hb⟩
      go_wp2_with fail
      refine (isweekday_any _ _).mono ?_
      rintro e w' ⟨rfl, rfl⟩
      rw [H2.out]
      obtain ⟨e0, e1, e2⟩ := box_now w1 (.int .i64 (Cal.yr n)) (.int .i64 (Cal.mon n)) (.int .i64 (Cal.dom n)) 85
      go_wp2_with fail
      refine (first_any _ _ _ (by omega) (by omega) s0 (by omega)).mono ?_
      rintro e w2 ⟨rfl, hb2⟩
      go_wp2_with fail
      refine (first_any _ _ _ (by omega) (by omega) s0 (by omega)).mono ?_
      rintro e w3 ⟨rfl, hb3⟩
      go_wp2_with fail
      refine (first_any _ _ _ (by omega) (by omega) s0 (by omega)).mono ?_
      rintro e w4 ⟨rfl, hb4⟩
      go_wp2
      go_ret3
      exact ⟨rfl, (((hb.alloc _ _).trans hb2).trans hb3).trans hb4⟩
    · have e : wy s n = Cal.yr n := by unfold wy; rw [if_neg a, if_neg b]
      have b' : decide (w1 (Cal.yr n + 1) s ≤ n) = false := by simp; omega
      rw [← WN.out]
      rw [e] at c1 sp1 ⊢
      clear e WN
      go_enter Tryz.func149, Tryz.ntmps149
      go_wp2_with fail
      refine (Go.Proofs.YtmbmkldcedkbmaaGreat.date_yes _ _ H.out).mono ?_
      rintro e w1 ⟨rfl, hb⟩
      go_wp2_with fail
      refine (isweekday_any _ _).mono ?_
      rintro e w' ⟨rfl, rfl⟩
      rw [H2.out]
      obtain ⟨e0, e1, e2⟩ := box_now w1 (.int .i64 (Cal.yr n)) (.int .i64 (Cal.mon n)) (.int .i64 (Cal.dom n)) 85
      go_wp2_with fail
      refine (first_any _ _ _ (by omega) (by omega) s0 (by omega)).mono ?_
      rintro e w2 ⟨rfl, hb2⟩
      go_wp2_with fail
      refine (first_any _ _ _ (by omega) (by omega) s0 (by omega)).mono ?_
      rintro e w3 ⟨rfl, hb3⟩
      go_wp2_with fail
      refine (first_any _ _ _ (by omega) (by omega) s0 (by omega)).mono ?_
      rintro e w4 ⟨rfl, hb4⟩
      go_wp2
      go_ret3
      exact ⟨rfl, (((hb.alloc _ _).trans hb2).trans hb3).trans hb4⟩
end Go.Proofs.YtmbmkldcedkbmaaGreat.Iso
