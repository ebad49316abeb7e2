/- What the reference's functions return for the ISO calendar (number 2): Fixed, Months, least, years, begins, Length, Day, Date. -/
import Derived.Test.YtcgcdolafooffaaRefWeek
import Derived.Test.YtcgcdolafooffaaRefDate
namespace Go.Proofs.Ytcgcdolafooffaa.Iso
open Go.RowKit

theorem ref_eq (y m d : Int) : w1 y 1 + 7 * (m - 1) + d - 1 = num y m d := by unfold num dby; omega
set_option maxHeartbeats 1000000 in
theorem fixed (y m d : Int) (w : World) (y1 : -40000 ≤ y) (y2 : y ≤ 40000) (m1 : 1 ≤ m) (m2 : m ≤ 54) (d1 : -100000000 ≤ d) (d2 : d ≤ 100000000) :
    Calls Try.prog 26 #[.int .i64 2, .int .i64 y, .int .i64 m, .int .i64 d] w fun e w' => e = .returned (.int .i64 (num y m d)) ∧ w = w' := by
  have b := w1_bdw 1 y1 y2
  have HF := Lib.hid (ref_eq y m d)
  go_enter Try.func26, Try.ntmps26
  go_wp2_with (go_at_call 18; refine (week1_any _ _ _ y1 y2 (by omega) (by omega)).mono ?_; rintro e w' ⟨rfl, rfl⟩)
  go_ret
  exact ⟨ret_int HF.out, rfl⟩
set_option maxHeartbeats 1000000 in
theorem months (y : Int) (w : World) (y1 : -39999 ≤ y) (y2 : y < 39999) : Calls Try.prog 25 #[.int .i64 2, .int .i64 y] w fun e w' => e = .returned (.int .i64 (M y)) ∧ w = w' := by
  have b := w1_bdw 1 (a := y) (by omega) (by omega)
  have b2 := w1_bdw 1 (a := y + 1) (by omega) (by omega)
  go_enter Try.func25, Try.ntmps25
  go_wp2_with (go_at_call 18; refine (week1_any _ _ _ (by omega) (by omega) (by omega) (by omega)).mono ?_; rintro e w' ⟨rfl, rfl⟩)
  refine (floor_any _ _ _ (by omega) (by omega) (by omega)).mono ?_
  rintro e w' ⟨rfl, rfl⟩
  go_wp2
  go_ret
  exact ⟨rfl, rfl⟩
set_option maxHeartbeats 1000000 in
theorem least (w : World) : Calls Try.prog 20 #[.int .i64 2] w fun e w' => e = .returned (.int .i64 0) ∧ w = w' := by
  go_enter Try.func20, Try.ntmps20
  go_wp2
  go_ret
  exact ⟨rfl, rfl⟩
set_option maxHeartbeats 1000000 in
theorem years (w : World) : Calls Try.prog 29 #[.int .i64 2] w fun e w' => e = .returned (.tuple #[.int .i64 0, .int .i64 9999]) ∧ w = w' := by
  go_enter Try.func29, Try.ntmps29
  go_wp2
  go_ret2
  exact ⟨rfl, rfl⟩
theorem num_1 (y : Int) : num y 1 1 = dby y + 1 := by unfold num; omega
theorem num_bdw {y m d : Int} (y1 : -40000 ≤ y) (y2 : y ≤ 40000) (m1 : 1 ≤ m) (m2 : m ≤ 54) (d1 : 0 ≤ d) (d2 : d ≤ 1000) : -100000000 ≤ num y m d ∧ num y m d ≤ 100000000 := by
  have := dby_bdw y1 y2
  unfold num; omega
theorem dom_eq (n : Int) : n - num (yr n) (mon n) 1 + 1 = dom n := by unfold num dom mon; omega
theorem mon_u (n m : Int) (_ : 1 ≤ m) (b : m ≤ M (yr n)) (c : num (yr n) m 1 ≤ n) (d : m < M (yr n) → n < num (yr n) (m + 1) 1) : m = mon n := by
  simp only [num] at c d
  have y2 := yr_hi n
  have es := dby_succ (yr n)
  unfold mon
  by_cases hm : m < M (yr n)
  · have := d hm; omega
  · omega
set_option maxHeartbeats 1000000 in
theorem begins_any (y : Int) (w : World) (y1 : -40000 ≤ y) (y2 : y ≤ 40000) :
    Calls Try.prog 23 #[.int .i64 2, .int .i64 y] w fun e w' => e = .returned (.int .i64 (dby y + 1)) ∧ w = w' := by
  have HE := Lib.hid (num_1 y)
  go_enter Try.func23, Try.ntmps23
  go_wp2_with (go_at_call 26; refine (fixed _ _ _ _ y1 y2 (by omega) (by omega) (by omega) (by omega)).mono ?_; rintro e w' ⟨rfl, rfl⟩)
  go_ret
  exact ⟨ret_int HE.out, rfl⟩
set_option maxHeartbeats 1000000 in
theorem reflength (y m : Int) (y1 : -39999 ≤ y) (y2 : y < 39999) : Gives 14 #[.int .i64 2, .int .i64 y, .int .i64 m] (len y m) := by
  intro w
  have HM := Lib.hid (fun w => months y w y1 y2)
  by_cases m1 : m < 1
  · have HL : Hid (len y m = 0) := by show _ = _; unfold len; rw [if_pos (Or.inl m1)]
    go_enter Try.func14, Try.ntmps14
    go_wp2
    go_ret
    exact ⟨ret_int HL.out.symm, rfl⟩
  · have d1 : decide (m < 1) = false := by simp; omega
    by_cases m2 : M y < m
    · have HL : Hid (len y m = 0) := by show _ = _; unfold len; rw [if_pos (Or.inr m2)]
      go_enter Try.func14, Try.ntmps14
      go_wp2_with (go_at_call 25; refine (HM.out _).mono ?_; rintro e w' ⟨rfl, rfl⟩)
      go_ret
      exact ⟨ret_int HL.out.symm, rfl⟩
    · have d2 : decide (M y < m) = false := by simp; omega
      have HL : Hid (len y m = 7) := by show _ = _; unfold len; rw [if_neg (by omega)]
      go_enter Try.func14, Try.ntmps14
      go_wp2_with (go_at_call 25; refine (HM.out _).mono ?_; rintro e w' ⟨rfl, rfl⟩)
      go_ret
      exact ⟨ret_int HL.out.symm, rfl⟩
theorem M_bd (y : Int) : 1 ≤ M y ∧ M y ≤ 53 := by have := M_cases y; omega
theorem refday_yes (y m d : Int) (w : World) (h : ok y m d = true) :
    Calls Try.prog 12 #[.int .i64 2, .agg #[.int .i64 y, .int .i64 m, .int .i64 d]] w fun e w' => e = .returned (.tuple #[.int .i64 (num y m d), .int .i64 0]) ∧ Gr w w' := by
  have hy := ok_year h
  have hb := ok_day h
  obtain ⟨h1, h2, h3, h4⟩ := ok_iff.1 h
  obtain ⟨m1, m2⟩ := len_month h1 h2
  have mb := M_bd y
  have hd := (len_bd y m).2
  have k := Go.Proofs.Ytcgcdolafooffaa.refday_yes 2 0 9999 y m d (num y m d) len w rfl years (fun _ _ => reflength y m (by omega) (by omega)) (okc_iff.2 (by omega)) (fun w => fixed _ _ _ w (by omega) (by omega) m1 (by omega) (by omega) (by omega))
  rw [if_pos hb, if_pos hb] at k
  exact k
theorem refday_no (y m d : Int) (w : World) (h : ok y m d = false) :
    Calls Try.prog 12 #[.int .i64 2, .agg #[.int .i64 y, .int .i64 m, .int .i64 d]] w fun e w' => e = .returned (.tuple #[.int .i64 0, .int .i64 2]) ∧ Gr w w' := by
  have h' := ok_not h
  cases hc : okc 0 9999 len y m d
  · exact Go.Proofs.Ytcgcdolafooffaa.refday_no 2 0 9999 y m d len w rfl years (fun _ _ => reflength y m (by omega) (by omega)) hc
  · obtain ⟨a1, a2, a3, a4⟩ := okc_iff.1 hc
    obtain ⟨m1, m2⟩ := len_month a3 a4
    have mb := M_bd y
    have hd := (len_bd y m).2
    have hb : ¬ Cal.dayB (num y m d) = true := by intro k; rw [Cal.dayB_iff] at k; omega
    have k := Go.Proofs.Ytcgcdolafooffaa.refday_yes 2 0 9999 y m d (num y m d) len w rfl years (fun _ _ => reflength y m (by omega) (by omega)) hc (fun w => fixed _ _ _ w (by omega) (by omega) m1 (by omega) (by omega) (by omega))
    rw [if_neg hb, if_neg hb] at k
    exact k
theorem refdate_yes (n : Int) (w : World) (h : Cal.dayB n = true) :
    Calls Try.prog 10 #[.int .i64 2, .int .i64 n] w fun e w' => e = .returned (.tuple #[.agg #[.int .i64 (yr n), .int .i64 (mon n), .int .i64 (dom n)], .int .i64 0]) ∧ Gr w w' := by
  obtain ⟨n1, n2⟩ := Cal.dayB_iff.1 h
  have yb := yr_bd n1 n2
  have y1 := yr_lo n
  have y2 := yr_hi n
  have e1 := num_1 (yr n)
  have mb := M_bd (yr n)
  have b0 := dby_0
  have b15 := dby_15000
  have k := Go.Proofs.Ytcgcdolafooffaa.refdate_yes 2 n 0 (fun y => dby y + 1) (fun y m => num y m 1) M (yr n) (mon n) w rfl rfl h (by omega) (by omega) least
    (fun y a b w => begins_any _ w (by omega) (by omega)) (fun w => months _ w (by omega) (by omega)) (by omega)
    (fun k k1 k2 w => fixed _ _ _ w (by omega) (by omega) k1 (by omega) (by omega) (by omega)) (fun k k1 k2 => num_bdw (by omega) (by omega) k1 (by omega) (by omega) (by omega))
    (by show dby 0 + 1 ≤ n; omega) (by show n < dby 15000 + 1; omega)
    (fun y a b => (yr_unique (by omega) (by omega)).symm)
    (by rw [e1]; omega)
    (fun m a b c d => mon_u n m a b c d)
  simp only [dom_eq] at k
  exact k
theorem refdate_no (n : Int) (w : World) (h : Cal.dayB n = false) :
    Calls Try.prog 10 #[.int .i64 2, .int .i64 n] w fun e w' => e = .returned (.tuple #[.agg #[.int .i64 0, .int .i64 0, .int .i64 0], .int .i64 2]) ∧ Gr w w' := Go.Proofs.Ytcgcdolafooffaa.refdate_no 2 n w h
end Go.Proofs.Ytcgcdolafooffaa.Iso
