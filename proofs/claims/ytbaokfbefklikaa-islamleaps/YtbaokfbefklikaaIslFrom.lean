/- What islam.FromIslamic returns. -/
import Derived.Test.YtbaokfbefklikaaIslFn
namespace Go.Proofs.Ytbaokfbefklikaa.Isl
open Go.RowKit

set_option maxHeartbeats 1000000 in
theorem from_far (y m d : Int) (w : World) (h : knB y = false) :
    Calls Try.prog 11 #[.agg #[.int .i64 y, .int .i64 m, .int .i64 d]] w fun e w' => e = .returned (.tuple #[.int .i64 0, .int .i64 2]) ∧ Gr w w' := by
  have H := Lib.hid h; clear h
  go_enter Try.func11, Try.ntmps11
  go_wp2
  go_quiet ((go_at_call 27; exact qsame (known_is H.out _)))
  go_wp2
  go_ret2
  exact ⟨rfl, ((Gr.refl _).alloc _ _).drewN _⟩
set_option maxHeartbeats 1000000 in
theorem from_small (y m d : Int) (w : World) (h : knB y = true) (h2 : d < 1) :
    Calls Try.prog 11 #[.agg #[.int .i64 y, .int .i64 m, .int .i64 d]] w fun e w' => e = .returned (.tuple #[.int .i64 0, .int .i64 2]) ∧ Gr w w' := by
  have H := Lib.hid h; clear h
  go_enter Try.func11, Try.ntmps11
  go_wp2
  go_quiet ((go_at_call 27; exact qsame (known_is H.out _)))
  go_wp2
  go_ret2
  exact ⟨rfl, ((Gr.refl _).alloc _ _).drewN _⟩
set_option maxHeartbeats 1000000 in
theorem from_great (y m d : Int) (w : World) (h : knB y = true) (h1 : 1 ≤ d) (h2 : len y m < d) :
    Calls Try.prog 11 #[.agg #[.int .i64 y, .int .i64 m, .int .i64 d]] w fun e w' => e = .returned (.tuple #[.int .i64 0, .int .i64 2]) ∧ Gr w w' := by
  have b1 : decide (d < 1) = false := by simp; omega
  have H := Lib.hid h; clear h
  go_enter Try.func11, Try.ntmps11
  go_wp2
  go_quiet (first | (go_at_call 27; exact qsame (known_is H.out _)) | (go_at_call 19; exact qsame (length_any _ _ _ H.out)))
  go_wp2
  go_ret2
  exact ⟨rfl, ((Gr.refl _).alloc _ _).drewN _⟩
set_option maxHeartbeats 1000000 in
theorem from_len (y m d : Int) (w : World) (r s : Int) (h : knB y = true) (d1 : 1 ≤ d) (d2 : d ≤ len y m)
    (hc : ∀ w : World, Calls Try.prog 28 #[.int .i64 227015, .int .i64 (num y m d - 227015)] w fun e w' => e = .returned (.tuple #[.int .i64 r, .int .i64 s]) ∧ w = w') :
    Calls Try.prog 11 #[.agg #[.int .i64 y, .int .i64 m, .int .i64 d]] w fun e w' => e = .returned (.tuple #[.int .i64 r, .int .i64 s]) ∧ Gr w w' := by
  obtain ⟨m1, m2⟩ := len_month d1 d2
  obtain ⟨yb1, yb2⟩ := knB_iff.1 h
  have lb := len_bd y m
  have bb := dby_bdw (a := y) (by omega) (by omega)
  have b1 : decide (d < 1) = false := by simp; omega
  have b2 : decide (len y m < d) = false := by simp; omega
  have H := Lib.hid h
  have HC := Lib.hid hc
  have HN : Hid (dby y - 227014 + d - 1 = num y 1 d - 227015) := by show _ = _; unfold num; rw [cum_1]; omega
  clear h hc
  go_enter Try.func11, Try.ntmps11
  go_wp2
  go_quiet (first | (go_at_call 27; exact qsame (known_is H.out _)) | (go_at_call 19; exact qsame (length_any _ _ _ H.out)))
  have hb : Gr (w.alloc (.cells #[.int .i64 y, .int .i64 m, .int .i64 d] 24)) ((w.alloc (.cells #[.int .i64 y, .int .i64 m, .int .i64 d] 24)).drewN nq) := (Gr.refl _).drewN _
  obtain ⟨c0, c1, c2⟩ := box3 hb
  have hg := ((Gr.refl w).alloc #[.int .i64 y, .int .i64 m, .int .i64 d] 24).trans hb
  clear hb
  generalize (w.alloc (.cells #[.int .i64 y, .int .i64 m, .int .i64 d] 24)).drewN nq = w1 at *
  go_wp2
  go_quiet ((go_at_call 18; exact qsame (before_any _ _ (by omega) (by omega))))
  go_wp2
  go_loop [4, 5] (fun t i => ∃ k : Int, 1 ≤ k ∧ k ≤ m ∧ i = .int .i64 k ∧ t = .int .i64 (num y k d - 227015)) (fun _ i => (m - intOf i).toNat)
  case atStart => exact ⟨1, by omega, by omega, rfl, by rw [← HN.out]⟩
  case round =>
    obtain ⟨k, k1, k2, rfl, rfl⟩ := hrel
    have kb := cum_bd k1 (by omega)
    have ld := len_bd y k
    have nb : -20001000 ≤ num y k d ∧ num y k d ≤ 20001000 := by unfold num; omega
    by_cases hlt : k < m
    · have s := cum_succ y k1 (by omega)
      have HS : Hid (num y (k + 1) d - 227015 = num y k d - 227015 + len y k) := by unfold num; show _ = _; omega
      clear s
      go_wp2_with (go_at_call 19; refine (length_any _ _ _ H.out).mono ?_; rintro e w' ⟨rfl, rfl⟩)
      go_round
      case rel => exact ⟨k + 1, by omega, by omega, rfl, by rw [HS.out]⟩
      case measure => simp [intOf]; omega
    · obtain rfl : k = m := by omega
      go_wp2_with fail
      refine (HC.out _).mono ?_
      rintro e w' ⟨rfl, rfl⟩
      go_wp2
      go_ret2
      exact ⟨rfl, hg.drewN _⟩
theorem num_w1 (y m d : Int) : 227015 + (num y m d - 227015) = num y m d := by omega
theorem from_yes (y m d : Int) (w : World) (h : ok y m d = true) :
    Calls Try.prog 11 #[.agg #[.int .i64 y, .int .i64 m, .int .i64 d]] w fun e w' => e = .returned (.tuple #[.int .i64 (num y m d), .int .i64 0]) ∧ Gr w w' := by
  obtain ⟨h1, h2, h3, h4⟩ := ok_iff.1 h
  have yb := ok_year h
  refine from_len y m d w _ _ (knB_iff.2 (by omega)) h1 h2 (fun w => ?_)
  have a := add_yes 227015 (num y m d - 227015) w (by decide) (by rw [num_w1]; exact ok_day h)
  rw [num_w1] at a
  exact a
theorem from_no (y m d : Int) (w : World) (h : ok y m d = false) :
    Calls Try.prog 11 #[.agg #[.int .i64 y, .int .i64 m, .int .i64 d]] w fun e w' => e = .returned (.tuple #[.int .i64 0, .int .i64 2]) ∧ Gr w w' := by
  cases hn : knB y
  · exact from_far y m d w hn
  · by_cases h1 : d < 1
    · exact from_small y m d w hn h1
    · by_cases h2 : len y m < d
      · exact from_great y m d w hn (by omega) h2
      · refine from_len y m d w _ _ hn (by omega) (by omega) (fun w => add_no _ _ w (Or.inr ?_))
        rw [num_w1]
        have := ok_not h
        cases hb : Cal.dayB (num y m d)
        · rfl
        · rw [Cal.dayB_iff] at hb; omega
end Go.Proofs.Ytbaokfbefklikaa.Isl
