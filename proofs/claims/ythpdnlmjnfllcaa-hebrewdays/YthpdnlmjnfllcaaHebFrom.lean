/- What hebrew.FromHebrew returns. -/
import Derived.Test.YthpdnlmjnfllcaaHebFn
namespace Go.Proofs.Ythpdnlmjnfllcaa.Heb
open Go.RowKit

set_option maxHeartbeats 1000000 in
theorem from_small (y m d : Int) (w : World) (h2 : d < 1) :
    Calls Try.prog 12 #[.agg #[.int .i64 y, .int .i64 m, .int .i64 d]] w fun e w' => e = .returned (.tuple #[.int .i64 0, .int .i64 2]) ∧ Gr w w' := by
  go_enter Try.func12, Try.ntmps12
  go_wp2
  go_quiet (fail)
  go_wp2
  go_ret2
  exact ⟨rfl, ((Gr.refl _).alloc _ _).drewN _⟩
set_option maxHeartbeats 1000000 in
theorem from_great (y m d : Int) (w : World) (h1 : 1 ≤ d) (h2 : len y m < d) :
    Calls Try.prog 12 #[.agg #[.int .i64 y, .int .i64 m, .int .i64 d]] w fun e w' => e = .returned (.tuple #[.int .i64 0, .int .i64 2]) ∧ Gr w w' := by
  have b1 : decide (d < 1) = false := by simp; omega
  go_enter Try.func12, Try.ntmps12
  go_wp2
  go_quiet ((go_at_call 18; exact qsame (length_any _ _ _)))
  go_wp2
  go_ret2
  exact ⟨rfl, ((Gr.refl _).alloc _ _).drewN _⟩
theorem num_7 (y d : Int) : ny y + d - 1 = num y 7 d := by unfold num cum; simp
set_option maxHeartbeats 2000000 in
theorem from_len (y m d : Int) (w : World) (h1 : 1 ≤ d) (h2 : d ≤ len y m) :
    Calls Try.prog 12 #[.agg #[.int .i64 y, .int .i64 m, .int .i64 d]] w fun e w' => e = .returned (.tuple #[.int .i64 (if Cal.dayB (num y m d) = true then num y m d else 0), .int .i64 (if Cal.dayB (num y m d) = true then 0 else 2)]) ∧ Gr w w' := by
  obtain ⟨y1, y2, m1, m2⟩ := len_in h1 h2
  have lb := len_bd y m
  have bb := ny_bd (y := y) (by omega) (by omega)
  have b1 : decide (d < 1) = false := by simp; omega
  have b2 : decide (len y m < d) = false := by simp; omega
  have HK : Hid (knB y = true) := knB_iff.2 ⟨y1, y2⟩
  have HN := Lib.hid (num_7 y d)
  have H7 : Hid (cum y 7 = 0) := by show _ = _; unfold cum; simp
  have HC0 := Lib.hid (cum_end y1 y2 m1 m2).1
  have mb := mc_bd y
  cases hg : Cal.dayB (num y m d)
  all_goals
    have HG := Lib.hid hg; clear hg
    first | rw [if_pos rfl, if_pos rfl] | rw [if_neg Bool.false_ne_true, if_neg Bool.false_ne_true]
    go_enter Try.func12, Try.ntmps12
    go_wp2
    go_quiet ((go_at_call 18; exact qsame (length_any _ _ _)))
    have hb : Gr (w.alloc (.cells #[.int .i64 y, .int .i64 m, .int .i64 d] 24)) ((w.alloc (.cells #[.int .i64 y, .int .i64 m, .int .i64 d] 24)).drewN nq) := (Gr.refl _).drewN _
    obtain ⟨c0, c1, c2⟩ := box3 hb
    have hgr := ((Gr.refl w).alloc #[.int .i64 y, .int .i64 m, .int .i64 d] 24).trans hb
    clear hb
    generalize (w.alloc (.cells #[.int .i64 y, .int .i64 m, .int .i64 d] 24)).drewN nq = w1 at *
    go_wp2
    go_quiet ((go_at_call 24; exact qsame (begin_any _ _ (by omega) (by omega))))
    go_wp2
    go_loop [4, 5] (fun t i => ∃ k : Int, 1 ≤ k ∧ k ≤ mc y ∧ cum y k ≤ cum y m ∧ i = .int .i64 k ∧ t = .int .i64 (num y k d)) (fun _ i => (cum y m - cum y (intOf i)).toNat)
    case atStart => exact ⟨7, by omega, by omega, by rw [H7.out]; exact HC0.out, rfl, by rw [← HN.out]⟩
    case round =>
      obtain ⟨k, k1, k2, kc, rfl, rfl⟩ := hrel
      have kb := cum_end y1 y2 k1 k2
      have ld := len_bd y k
      have kl := len_lo y1 y2 k1 k2
      have nb : -20001000 ≤ num y k d ∧ num y k d ≤ 20001000 := by have := yl_bd y1 y2; unfold num; omega
      by_cases ne : k = m
      · subst ne
        go_wp2_with fail
        refine (of_any _ _).mono ?_
        rintro e w' ⟨rfl, rfl⟩
        rw [HG.out]
        go_wp2
        go_ret2
        exact ⟨rfl, hgr.drewN _⟩
      · have d0 : (k != m) = true := by simpa using ne
        obtain ⟨s1, s2⟩ := step y1 y2 k1 k2 m1 m2 kc ne
        have e := cum_next y1 y2 k1 k2 s1
        have HS : Hid (num y (nm y k) d = num y k d + len y k) := by unfold num; show _ = _; omega
        have HE := Lib.hid e
        obtain ⟨n1, n2⟩ := nm_bd k1 k2
        clear e ne
        go_wp2_with (first | (go_at_call 25; refine (next_any _ _ _ HK.out k1 (by omega)).mono ?_; rintro e w' ⟨rfl, rfl⟩) | (go_at_call 18; refine (length_any _ _ _).mono ?_; rintro e w' ⟨rfl, rfl⟩))
        go_round
        case rel => exact ⟨nm y k, n1, n2, by rw [HE.out]; exact s2, rfl, by rw [HS.out]⟩
        case measure => simp [intOf]; have := HE.out; omega
theorem from_yes (y m d : Int) (w : World) (h : ok y m d = true) :
    Calls Try.prog 12 #[.agg #[.int .i64 y, .int .i64 m, .int .i64 d]] w fun e w' => e = .returned (.tuple #[.int .i64 (num y m d), .int .i64 0]) ∧ Gr w w' := by
  obtain ⟨h1, h2, h3, h4⟩ := ok_iff.1 h
  have k := from_len y m d w h1 h2
  rw [if_pos (ok_day h), if_pos (ok_day h)] at k
  exact k
theorem from_no (y m d : Int) (w : World) (h : ok y m d = false) :
    Calls Try.prog 12 #[.agg #[.int .i64 y, .int .i64 m, .int .i64 d]] w fun e w' => e = .returned (.tuple #[.int .i64 0, .int .i64 2]) ∧ Gr w w' := by
  by_cases h1 : d < 1
  · exact from_small y m d w h1
  · by_cases h2 : len y m < d
    · exact from_great y m d w (by omega) h2
    · have h' := ok_not h
      have hb : ¬ Cal.dayB (num y m d) = true := by intro k; rw [Cal.dayB_iff] at k; omega
      have k := from_len y m d w (by omega) (by omega)
      rw [if_neg hb, if_neg hb] at k
      exact k
end Go.Proofs.Ythpdnlmjnfllcaa.Heb
