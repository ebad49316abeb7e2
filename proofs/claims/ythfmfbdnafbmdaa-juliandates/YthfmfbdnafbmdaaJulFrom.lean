/- What julian.FromJulian returns. -/
import Derived.Test.YthfmfbdnafbmdaaJulLeaf
namespace Go.Proofs.Ythfmfbdnafbmdaa.Jul
open Go.RowKit

theorem near_is {y : Int} {b : Bool} (h : nearB y = b) (w : World) : Calls Try.prog 31 #[.int .i64 y] w fun e w' => e = .returned (.bool b) ∧ w = w' := by
  subst h; exact near_any y w
set_option maxHeartbeats 1000000 in
theorem from_far (y m d : Int) (w : World) (h : nearB y = false) :
    Calls Try.prog 14 #[.agg #[.int .i64 y, .int .i64 m, .int .i64 d]] w fun e w' => e = .returned (.tuple #[.int .i64 0, .int .i64 2]) ∧ Gr w w' := by
  have H := Lib.hid h; clear h
  go_enter Try.func14, Try.ntmps14
  go_wp2
  go_quiet ((go_at_call 31; exact qsame (near_is H.out _)))
  go_wp2
  go_ret2
  exact ⟨rfl, ((Gr.refl _).alloc _ _).drewN _⟩
set_option maxHeartbeats 1000000 in
theorem from_small (y m d : Int) (w : World) (h : nearB y = true) (h2 : d < 1) :
    Calls Try.prog 14 #[.agg #[.int .i64 y, .int .i64 m, .int .i64 d]] w fun e w' => e = .returned (.tuple #[.int .i64 0, .int .i64 2]) ∧ Gr w w' := by
  have H := Lib.hid h; clear h
  go_enter Try.func14, Try.ntmps14
  go_wp2
  go_quiet ((go_at_call 31; exact qsame (near_is H.out _)))
  go_wp2
  go_ret2
  exact ⟨rfl, ((Gr.refl _).alloc _ _).drewN _⟩
set_option maxHeartbeats 1000000 in
theorem from_great (y m d : Int) (w : World) (h : nearB y = true) (h1 : 1 ≤ d) (h2 : len y m < d) :
    Calls Try.prog 14 #[.agg #[.int .i64 y, .int .i64 m, .int .i64 d]] w fun e w' => e = .returned (.tuple #[.int .i64 0, .int .i64 2]) ∧ Gr w w' := by
  have b1 : decide (d < 1) = false := by simp; omega
  have H := Lib.hid h; clear h
  go_enter Try.func14, Try.ntmps14
  go_wp2
  go_quiet (first | (go_at_call 31; exact qsame (near_is H.out _)) | (go_at_call 23; exact qsame (jlength_any _ _ _)))
  go_wp2
  go_ret2
  exact ⟨rfl, ((Gr.refl _).alloc _ _).drewN _⟩
theorem before_is (y : Int) (w : World) (y1 : -9999 ≤ y) (y2 : y ≤ 9999) :
    Calls Try.prog 22 #[.int .i64 y, .int .i64 0] w fun e w' => e = .returned (.int .i64 (dby y + 2)) ∧ w = w' := by
  have e : ((y - 1) * 1461 + 0) / 4 = dby y + 2 := by unfold dby; omega
  rw [← e]; exact jbefore_any y 0 w (by omega) (by omega) (by omega) (by omega)
set_option maxHeartbeats 1000000 in
theorem from_len (y m d : Int) (w : World) (r s : Int) (h : nearB y = true) (d1 : 1 ≤ d) (d2 : d ≤ len y m)
    (hc : ∀ w : World, Calls Try.prog 32 #[.int .i64 (num y m d)] w fun e w' => e = .returned (.tuple #[.int .i64 r, .int .i64 s]) ∧ w = w') :
    Calls Try.prog 14 #[.agg #[.int .i64 y, .int .i64 m, .int .i64 d]] w fun e w' => e = .returned (.tuple #[.int .i64 r, .int .i64 s]) ∧ Gr w w' := by
  obtain ⟨m1, m2⟩ := len_month d1 d2
  have yb := nearB_iff.1 h
  obtain ⟨yb1, yb2⟩ := yb
  have lb := len_bd y m
  have bb := dby_bdw (a := y) (by omega) (by omega)
  have b1 : decide (d < 1) = false := by simp; omega
  have b2 : decide (len y m < d) = false := by simp; omega
  have H := Lib.hid h
  have HC := Lib.hid hc
  have HN : Hid (-1 + (dby y + 2) + d - 1 = num y 1 d) := by show _ = _; unfold num; rw [Cal.cum_1]; omega
  clear h hc
  go_enter Try.func14, Try.ntmps14
  go_wp2
  go_quiet (first | (go_at_call 31; exact qsame (near_is H.out _)) | (go_at_call 23; exact qsame (jlength_any _ _ _)))
  have hb : Gr (w.alloc (.cells #[.int .i64 y, .int .i64 m, .int .i64 d] 24)) ((w.alloc (.cells #[.int .i64 y, .int .i64 m, .int .i64 d] 24)).drewN nq) := (Gr.refl _).drewN _
  obtain ⟨c0, c1, c2⟩ := box3 hb
  have hg := ((Gr.refl w).alloc #[.int .i64 y, .int .i64 m, .int .i64 d] 24).trans hb
  clear hb
  generalize (w.alloc (.cells #[.int .i64 y, .int .i64 m, .int .i64 d] 24)).drewN nq = w1 at *
  go_wp2
  go_quiet ((go_at_call 22; exact qsame (before_is _ _ yb1 yb2)))
  go_wp2
  go_loop [4, 5] (fun t i => ∃ k : Int, 1 ≤ k ∧ k ≤ m ∧ i = .int .i64 k ∧ t = .int .i64 (num y k d)) (fun _ i => (m - intOf i).toNat)
  case atStart => exact ⟨1, by omega, by omega, rfl, by rw [← HN.out]⟩
  case round =>
    obtain ⟨k, k1, k2, rfl, rfl⟩ := hrel
    have kb := Cal.cum_bd (rep y) k1 (by omega)
    have ld := len_bd y k
    have nb : -20000000 ≤ num y k d ∧ num y k d ≤ 20000000 := by unfold num; omega
    by_cases hlt : k < m
    · have s := Cal.cum_succ (rep y) k1 (by omega)
      have HS : Hid (num y (k + 1) d = num y k d + len y k) := by unfold num len; show _ = _; omega
      clear s
      go_wp2_with (go_at_call 23; refine (jlength_any _ _ _).mono ?_; rintro e w' ⟨rfl, rfl⟩)
      go_round
      case rel => exact ⟨k + 1, by omega, by omega, rfl, by rw [HS.out]⟩
      case measure => simp [intOf]; omega
    · obtain rfl : k = m := by omega
      go_wp2_with fail
      refine (HC.out _).mono ?_
      rintro e w' ⟨rfl, rfl⟩
      go_wp2
      go_ret2
      exact ⟨rfl, hg.drewN _⟩
theorem from_yes (y m d : Int) (w : World) (h : ok y m d = true) :
    Calls Try.prog 14 #[.agg #[.int .i64 y, .int .i64 m, .int .i64 d]] w fun e w' => e = .returned (.tuple #[.int .i64 (num y m d), .int .i64 0]) ∧ Gr w w' := by
  obtain ⟨h1, h2, h3, h4⟩ := ok_iff.1 h
  have yb := ok_year h
  exact from_len y m d w _ _ (nearB_iff.2 (by omega)) h1 h2 (fun w => checked_yes _ w (ok_day h))
theorem from_no (y m d : Int) (w : World) (h : ok y m d = false) :
    Calls Try.prog 14 #[.agg #[.int .i64 y, .int .i64 m, .int .i64 d]] w fun e w' => e = .returned (.tuple #[.int .i64 0, .int .i64 2]) ∧ Gr w w' := by
  cases hn : nearB y
  · exact from_far y m d w hn
  · by_cases h1 : d < 1
    · exact from_small y m d w hn h1
    · by_cases h2 : len y m < d
      · exact from_great y m d w hn (by omega) h2
      · refine from_len y m d w _ _ hn (by omega) (by omega) (fun w => checked_no _ w ?_)
        have := ok_not h
        cases hb : Cal.dayB (num y m d)
        · rfl
        · rw [Cal.dayB_iff] at hb; omega
end Go.Proofs.Ythfmfbdnafbmdaa.Jul
