/- What persian.FromPersian returns. -/
import Derived.Test.YtjngioanpphdkaaPerFn
namespace Go.Proofs.Ytjngioanpphdkaa.Per
open Go.RowKit

set_option maxHeartbeats 1000000 in
theorem from_far (y m d : Int) (w : World) (h : knB y = false) :
    Calls Try.prog 11 #[.agg #[.int .i64 y, .int .i64 m, .int .i64 d]] w fun e w' => e = .returned (.tuple #[.int .i64 0, .int .i64 2]) ∧ Gr w w' := by
  have H := Lib.hid h; clear h
  go_enter Try.func11, Try.ntmps11
  go_wp2
  go_quiet ((go_at_call 26; exact qsame (known_is H.out _)))
  go_wp2
  go_ret2
  exact ⟨rfl, ((Gr.refl _).alloc _ _).drewN _⟩
set_option maxHeartbeats 1000000 in
theorem from_small (y m d : Int) (w : World) (h : knB y = true) (h2 : d < 1) :
    Calls Try.prog 11 #[.agg #[.int .i64 y, .int .i64 m, .int .i64 d]] w fun e w' => e = .returned (.tuple #[.int .i64 0, .int .i64 2]) ∧ Gr w w' := by
  have H := Lib.hid h; clear h
  go_enter Try.func11, Try.ntmps11
  go_wp2
  go_quiet ((go_at_call 26; exact qsame (known_is H.out _)))
  go_wp2
  go_ret2
  exact ⟨rfl, ((Gr.refl _).alloc _ _).drewN _⟩
set_option maxHeartbeats 1000000 in
theorem from_great (y m d : Int) (w : World) (h : knB y = true) (h1 : 1 ≤ d) (h2 : len y m < d) :
    Calls Try.prog 11 #[.agg #[.int .i64 y, .int .i64 m, .int .i64 d]] w fun e w' => e = .returned (.tuple #[.int .i64 0, .int .i64 2]) ∧ Gr w w' := by
  have b1 : decide (d < 1) = false := by simp; omega
  have H := Lib.hid h; clear h
  go_enter Try.func11, Try.ntmps11
  go_wp2
  go_quiet (first | (go_at_call 26; exact qsame (known_is H.out _)) | (go_at_call 27; exact qsame (length_any _ _ _ H.out)))
  go_wp2
  go_ret2
  exact ⟨rfl, ((Gr.refl _).alloc _ _).drewN _⟩
theorem add_eq {y m d : Int} : (zdb (pl y) - 399654 + 30 * (m - 1) + if 6 < m - 1 then 6 else m - 1) + d - 1 = num y m d - 399655 := by
  have := cum_cases m
  unfold num dby; split <;> omega
set_option maxHeartbeats 1000000 in
theorem from_len (y m d : Int) (w : World) (r s : Int) (h : knB y = true) (d1 : 1 ≤ d) (d2 : d ≤ len y m)
    (hc : ∀ w : World, Calls Try.prog 28 #[.int .i64 399655, .int .i64 (num y m d - 399655)] w fun e w' => e = .returned (.tuple #[.int .i64 r, .int .i64 s]) ∧ w = w') :
    Calls Try.prog 11 #[.agg #[.int .i64 y, .int .i64 m, .int .i64 d]] w fun e w' => e = .returned (.tuple #[.int .i64 r, .int .i64 s]) ∧ Gr w w' := by
  obtain ⟨m1, m2⟩ := len_month d1 d2
  obtain ⟨yb1, yb2, yb3⟩ := knB_iff.1 h
  have lb := len_bd y m
  have pb := pl_cases y
  have bb := zdb_bd (a := pl y) (by omega) (by omega)
  have pb1 : -40000 ≤ pl y := by omega
  have pb2 : pl y ≤ 40000 := by omega
  have b1 : decide (d < 1) = false := by simp; omega
  have b2 : decide (len y m < d) = false := by simp; omega
  have H := Lib.hid h
  rw [← add_eq] at hc
  have HC := Lib.hid hc
  clear h hc pb yb3
  go_enter Try.func11, Try.ntmps11
  go_wp2
  go_quiet (first | (go_at_call 26; exact qsame (known_is H.out _)) | (go_at_call 27; exact qsame (length_any _ _ _ H.out)))
  have hb : Gr (w.alloc (.cells #[.int .i64 y, .int .i64 m, .int .i64 d] 24)) ((w.alloc (.cells #[.int .i64 y, .int .i64 m, .int .i64 d] 24)).drewN nq) := (Gr.refl _).drewN _
  obtain ⟨c0, c1, c2⟩ := box3 hb
  have hg := ((Gr.refl w).alloc #[.int .i64 y, .int .i64 m, .int .i64 d] 24).trans hb
  clear hb
  generalize (w.alloc (.cells #[.int .i64 y, .int .i64 m, .int .i64 d] 24)).drewN nq = w1 at *
  go_wp2
  go_quiet (first | (go_at_call 30; exact qsame (place_any _ _ (by omega) (by omega))) | (go_at_call 29; exact qsame (before_any _ _ pb1 pb2)) | (go_at_call 28; exact qsame (HC.out _)))
  all_goals go_wp2
  all_goals go_ret2
  all_goals exact ⟨rfl, hg.drewN _⟩
theorem num_w1 (y m d : Int) : 399655 + (num y m d - 399655) = num y m d := by omega
theorem from_yes (y m d : Int) (w : World) (h : ok y m d = true) :
    Calls Try.prog 11 #[.agg #[.int .i64 y, .int .i64 m, .int .i64 d]] w fun e w' => e = .returned (.tuple #[.int .i64 (num y m d), .int .i64 0]) ∧ Gr w w' := by
  obtain ⟨h1, h2, h3, h4⟩ := ok_iff.1 h
  have yb := ok_year h
  refine from_len y m d w _ _ (knB_iff.2 (by omega)) h1 h2 (fun w => ?_)
  have a := add_yes 399655 (num y m d - 399655) w (by decide) (by rw [num_w1]; exact ok_day h)
  rw [num_w1] at a
  exact a
theorem from_no (y m d : Int) (w : World) (h : ok y m d = false) :
    Calls Try.prog 11 #[.agg #[.int .i64 y, .int .i64 m, .int .i64 d]] w fun e w' => e = .returned (.tuple #[.int .i64 0, .int .i64 2]) ∧ Gr w w' := by
  cases hn : knB y
  · exact from_far y m d w hn
  · by_cases h1 : d < 1
    · exact from_small y m d w hn h1
    · by_cases h2 : len y m < d
      · exact from_great y m d w hn (by omega) h2
      · refine from_len y m d w _ _ hn (by omega) (by omega) (fun w => add_no _ _ w (Or.inr ?_))
        rw [num_w1]
        have := ok_not h
        cases hb : Cal.dayB (num y m d)
        · rfl
        · rw [Cal.dayB_iff] at hb; omega
end Go.Proofs.Ytjngioanpphdkaa.Per
