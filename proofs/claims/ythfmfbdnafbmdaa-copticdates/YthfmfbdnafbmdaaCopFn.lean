/- What julian.Coptic and julian.FromCoptic return. -/
import Derived.Test.YthfmfbdnafbmdaaJulLeaf
namespace Go.Proofs.Ythfmfbdnafbmdaa.Cop
open Go.RowKit

set_option maxHeartbeats 1000000 in
theorem date_no (n : Int) (w : World) (h : Cal.dayB n = false) :
    Calls Try.prog 18 #[.int .i64 n] w fun e w' => e = .returned (.tuple #[.agg #[.int .i64 0, .int .i64 0, .int .i64 0], .int .i64 2]) ∧ Gr w w' := by
  have H := Lib.hid h; clear h
  go_enter Try.func18, Try.ntmps18
  go_wp2_with fail
  refine (of_any _ _).mono ?_
  rintro e w' ⟨rfl, rfl⟩
  rw [H.out]
  go_wp2
  exact bodyPost_ret (v := .tuple #[.agg #[.int .i64 0, .int .i64 0, .int .i64 0], .int .i64 2]) (by simp [results, Try.results18, go_sem]) rfl ⟨rfl, (Gr.refl _).alloc _ _⟩

theorem before_eq (y : Int) : ((y - 1) * 1461 + 1) / 4 = dby y - 103604 := by unfold dby; omega
theorem year_eq (n : Int) : ((n - 103605) * 4 + 3 - 1) / 1461 + 1 = yr n := by unfold yr; omega
set_option maxHeartbeats 1000000 in
theorem date_yes (n : Int) (w : World) (h : Cal.dayB n = true) :
    Calls Try.prog 18 #[.int .i64 n] w fun e w' => e = .returned (.tuple #[.agg #[.int .i64 (yr n), .int .i64 (mon n), .int .i64 (dom n)], .int .i64 0]) ∧ Gr w w' := by
  obtain ⟨n1, n2⟩ := Cal.dayB_iff.1 h
  have yb := yr_bd n1 n2
  have lb := dby_bdw (a := yr n) (by omega) (by omega)
  have y1 := yr_lo n
  have HB := Lib.hid (before_eq (yr n))
  have HY := Lib.hid (year_eq n)
  have HR : Hid (n - 103605 - (dby (yr n) - 103604) = n - 1 - dby (yr n)) := by show _ = _; omega
  have HM : Hid ((n - 1 - dby (yr n)) / 30 + 1 = mon n) := rfl
  have HD : Hid ((n - 1 - dby (yr n)) % 30 + 1 = dom n) := rfl
  have H := Lib.hid h; clear h
  go_enter Try.func18, Try.ntmps18
  go_wp2_with fail
  refine (of_any _ _).mono ?_
  rintro e w' ⟨rfl, rfl⟩
  rw [H.out]
  go_wp2_with fail
  refine (jyearOf_any _ _ _ (by omega) (by omega) (by omega) (by omega)).mono ?_
  rintro e w' ⟨rfl, rfl⟩
  rw [HY.out]
  go_wp2_with fail
  refine (jbefore_any _ _ _ (by omega) (by omega) (by omega) (by omega)).mono ?_
  rintro e w' ⟨rfl, rfl⟩
  rw [HB.out]
  go_wp2_with fail
  rw [HR.out]
  go_wp2
  rw [HM.out, HD.out]
  exact bodyPost_ret (v := .tuple #[.agg #[.int .i64 (yr n), .int .i64 (mon n), .int .i64 (dom n)], .int .i64 0]) (by simp [results, Try.results18, go_sem]) rfl ⟨rfl, (Gr.refl _).alloc _ _⟩

theorem near_is {y : Int} {b : Bool} (h : nearB y = b) (w : World) : Calls Try.prog 31 #[.int .i64 y] w fun e w' => e = .returned (.bool b) ∧ w = w' := by
  subst h; exact near_any y w
set_option maxHeartbeats 1000000 in
theorem from_far (y m d : Int) (w : World) (h : nearB y = false) :
    Calls Try.prog 19 #[.agg #[.int .i64 y, .int .i64 m, .int .i64 d]] w fun e w' => e = .returned (.tuple #[.int .i64 0, .int .i64 2]) ∧ Gr w w' := by
  have H := Lib.hid h; clear h
  go_enter Try.func19, Try.ntmps19
  go_wp2
  go_quiet ((go_at_call 31; exact qsame (near_is H.out _)))
  go_wp2
  go_ret2
  exact ⟨rfl, ((Gr.refl _).alloc _ _).drewN _⟩
set_option maxHeartbeats 1000000 in
theorem from_small (y m d : Int) (w : World) (h : nearB y = true) (h2 : d < 1) :
    Calls Try.prog 19 #[.agg #[.int .i64 y, .int .i64 m, .int .i64 d]] w fun e w' => e = .returned (.tuple #[.int .i64 0, .int .i64 2]) ∧ Gr w w' := by
  have H := Lib.hid h; clear h
  go_enter Try.func19, Try.ntmps19
  go_wp2
  go_quiet ((go_at_call 31; exact qsame (near_is H.out _)))
  go_wp2
  go_ret2
  exact ⟨rfl, ((Gr.refl _).alloc _ _).drewN _⟩
set_option maxHeartbeats 1000000 in
theorem from_great (y m d : Int) (w : World) (h : nearB y = true) (h1 : 1 ≤ d) (h2 : len y m < d) :
    Calls Try.prog 19 #[.agg #[.int .i64 y, .int .i64 m, .int .i64 d]] w fun e w' => e = .returned (.tuple #[.int .i64 0, .int .i64 2]) ∧ Gr w w' := by
  have b1 : decide (d < 1) = false := by simp; omega
  have H := Lib.hid h; clear h
  go_enter Try.func19, Try.ntmps19
  go_wp2
  go_quiet (first | (go_at_call 31; exact qsame (near_is H.out _)) | (go_at_call 35; exact qsame (clength_any _ _ _)))
  go_wp2
  go_ret2
  exact ⟨rfl, ((Gr.refl _).alloc _ _).drewN _⟩
theorem before_is (y : Int) (w : World) (y1 : -9999 ≤ y) (y2 : y ≤ 9999) :
    Calls Try.prog 22 #[.int .i64 y, .int .i64 1] w fun e w' => e = .returned (.int .i64 (dby y - 103604)) ∧ w = w' := by
  rw [← before_eq]; exact jbefore_any y 1 w (by omega) (by omega) (by omega) (by omega)
set_option maxHeartbeats 1000000 in
theorem from_len (y m d : Int) (w : World) (r s : Int) (h : nearB y = true) (d1 : 1 ≤ d) (d2 : d ≤ len y m)
    (hc : ∀ w : World, Calls Try.prog 32 #[.int .i64 (num y m d)] w fun e w' => e = .returned (.tuple #[.int .i64 r, .int .i64 s]) ∧ w = w') :
    Calls Try.prog 19 #[.agg #[.int .i64 y, .int .i64 m, .int .i64 d]] w fun e w' => e = .returned (.tuple #[.int .i64 r, .int .i64 s]) ∧ Gr w w' := by
  obtain ⟨m1, m2⟩ := len_month d1 d2
  have yb := nearB_iff.1 h
  obtain ⟨yb1, yb2⟩ := yb
  have lb := len_bd y m
  have bb := dby_bdw (a := y) (by omega) (by omega)
  have b1 : decide (d < 1) = false := by simp; omega
  have b2 : decide (len y m < d) = false := by simp; omega
  have H := Lib.hid h
  have HN : 103605 + (dby y - 103604) + 30 * (m - 1) + d - 1 = num y m d := by unfold num; omega
  rw [← HN] at hc
  have HC := Lib.hid hc
  clear h hc HN
  go_enter Try.func19, Try.ntmps19
  go_wp2
  go_quiet (first | (go_at_call 31; exact qsame (near_is H.out _)) | (go_at_call 35; exact qsame (clength_any _ _ _)))
  have hb : Gr (w.alloc (.cells #[.int .i64 y, .int .i64 m, .int .i64 d] 24)) ((w.alloc (.cells #[.int .i64 y, .int .i64 m, .int .i64 d] 24)).drewN nq) := (Gr.refl _).drewN _
  obtain ⟨c0, c1, c2⟩ := box3 hb
  have hg := ((Gr.refl w).alloc #[.int .i64 y, .int .i64 m, .int .i64 d] 24).trans hb
  clear hb
  generalize (w.alloc (.cells #[.int .i64 y, .int .i64 m, .int .i64 d] 24)).drewN nq = w1 at *
  go_wp2
  go_quiet (first | (go_at_call 22; exact qsame (before_is _ _ yb1 yb2)) | (go_at_call 32; exact qsame (HC.out _)))
  go_wp2
  go_ret2
  exact ⟨rfl, hg.drewN _⟩
theorem from_yes (y m d : Int) (w : World) (h : ok y m d = true) :
    Calls Try.prog 19 #[.agg #[.int .i64 y, .int .i64 m, .int .i64 d]] w fun e w' => e = .returned (.tuple #[.int .i64 (num y m d), .int .i64 0]) ∧ Gr w w' := by
  obtain ⟨h1, h2, h3, h4⟩ := ok_iff.1 h
  have yb := ok_year h
  exact from_len y m d w _ _ (nearB_iff.2 (by omega)) h1 h2 (fun w => checked_yes _ w (ok_day h))
theorem from_no (y m d : Int) (w : World) (h : ok y m d = false) :
    Calls Try.prog 19 #[.agg #[.int .i64 y, .int .i64 m, .int .i64 d]] w fun e w' => e = .returned (.tuple #[.int .i64 0, .int .i64 2]) ∧ Gr w w' := by
  cases hn : nearB y
  · exact from_far y m d w hn
  · by_cases h1 : d < 1
    · exact from_small y m d w hn h1
    · by_cases h2 : len y m < d
      · exact from_great y m d w hn (by omega) h2
      · refine from_len y m d w _ _ hn (by omega) (by omega) (fun w => checked_no _ w ?_)
        have := ok_not h
        cases hb : Cal.dayB (num y m d)
        · rfl
        · rw [Cal.dayB_iff] at hb; omega
end Go.Proofs.Ythfmfbdnafbmdaa.Cop
