/- The reference's Day and Date, for calendar 5 (no year 0). -/
import Derived.Test.YtjngioanpphdkaaRefPer
import Derived.Test.YtjngioanpphdkaaRefDate
namespace Go.Proofs.Ytjngioanpphdkaa.Per
open Go.RowKit

set_option maxHeartbeats 2000000 in
theorem refday_far (y m d : Int) (w : World) (h : y < -10000 ∨ 20000 < y ∨ y = 0) :
    Calls Try.prog 12 #[.int .i64 5, .agg #[.int .i64 y, .int .i64 m, .int .i64 d]] w fun e w' => e = .returned (.tuple #[.int .i64 0, .int .i64 2]) ∧ Gr w w' := by
  by_cases a1 : y < -10000
  · clear h
    go_enter Try.func12, Try.ntmps12
    go_wp2_with fail
    refine (years _).mono ?_
    rintro e w' ⟨rfl, rfl⟩
    go_wp2
    go_quiet (fail)
    go_wp2
    go_ret2
    exact ⟨rfl, ((Gr.refl _).alloc _ _).drewN _⟩
  · have b1 : decide (y < -10000) = false := by simp; omega
    by_cases a2 : 20000 < y
    · clear h
      go_enter Try.func12, Try.ntmps12
      go_wp2_with fail
      refine (years _).mono ?_
      rintro e w' ⟨rfl, rfl⟩
      go_wp2
      go_quiet (fail)
      go_wp2
      go_ret2
      exact ⟨rfl, ((Gr.refl _).alloc _ _).drewN _⟩
    · obtain rfl : y = 0 := by omega
      clear h a1 a2 b1
      go_enter Try.func12, Try.ntmps12
      go_wp2_with fail
      refine (years _).mono ?_
      rintro e w' ⟨rfl, rfl⟩
      go_wp2
      go_quiet (fail)
      go_wp2
      go_ret2
      exact ⟨rfl, ((Gr.refl _).alloc _ _).drewN _⟩
set_option maxHeartbeats 2000000 in
theorem refday_bad (y m d : Int) (w : World) (y1 : -10000 ≤ y) (y2 : y ≤ 20000) (y3 : y ≠ 0) (h : d < 1 ∨ len y m < d) :
    Calls Try.prog 12 #[.int .i64 5, .agg #[.int .i64 y, .int .i64 m, .int .i64 d]] w fun e w' => e = .returned (.tuple #[.int .i64 0, .int .i64 2]) ∧ Gr w w' := by
  have b1 : decide (y < -10000) = false := by simp; omega
  have b2 : decide (20000 < y) = false := by simp; omega
  have b0 : (y == 0) = false := by simpa using y3
  have g := reflength y m (by omega) (by omega)
  by_cases a3 : d < 1
  · clear h y3
    go_enter Try.func12, Try.ntmps12
    go_wp2_with fail
    refine (years _).mono ?_
    rintro e w' ⟨rfl, rfl⟩
    go_wp2
    go_quiet (fail)
    go_wp2
    go_ret2
    exact ⟨rfl, ((Gr.refl _).alloc _ _).drewN _⟩
  · have b3 : decide (d < 1) = false := by simp; omega
    have b4 : len y m < d := by omega
    clear h y3
    go_enter Try.func12, Try.ntmps12
    go_wp2_with fail
    refine (years _).mono ?_
    rintro e w' ⟨rfl, rfl⟩
    go_wp2
    go_quiet ((go_at_call 14; exact qsame (g.on _)))
    go_wp2
    go_ret2
    exact ⟨rfl, ((Gr.refl _).alloc _ _).drewN _⟩
set_option maxHeartbeats 2000000 in
theorem refday_in (y m d : Int) (w : World) (y1 : -10000 ≤ y) (y2 : y ≤ 20000) (y3 : y ≠ 0) (l3 : 1 ≤ d) (l4 : d ≤ len y m) :
    Calls Try.prog 12 #[.int .i64 5, .agg #[.int .i64 y, .int .i64 m, .int .i64 d]] w fun e w' => e = .returned (.tuple #[.int .i64 (if Cal.dayB (num y m d) = true then num y m d else 0), .int .i64 (if Cal.dayB (num y m d) = true then 0 else 2)]) ∧ Gr w w' := by
  obtain ⟨m1, m2⟩ := len_month l3 l4
  have hd := (len_bd y m).2
  have hl := reflength y m (by omega) (by omega)
  have hF : Gives 25 #[.int .i64 5, .int .i64 y, .int .i64 m, .int .i64 d] (num y m d) := fun w => fixed _ _ _ w (by omega) (by omega) m1 (by omega) (by omega) (by omega)
  have b0 : (y == 0) = false := by simpa using y3
  have b1 : decide (y < -10000) = false := by simp; omega
  have b2 : decide (20000 < y) = false := by simp; omega
  have b3 : decide (d < 1) = false := by simp; omega
  have b4 : decide (len y m < d) = false := by simp; omega
  clear y3
  cases hg : Cal.dayB (num y m d)
  all_goals
    have HG := Lib.hid hg; clear hg
    first | rw [if_pos rfl, if_pos rfl] | rw [if_neg Bool.false_ne_true, if_neg Bool.false_ne_true]
    go_enter Try.func12, Try.ntmps12
    go_wp2_with fail
    refine (years _).mono ?_
    rintro e w' ⟨rfl, rfl⟩
    go_wp2
    go_quiet ((go_at_call 14; exact qsame (hl.on _)))
    go_wp2_with fail
    refine (hF.on _).mono ?_
    rintro e w' ⟨rfl, rfl⟩
    go_wp2_with fail
    refine (in_any _ _).mono ?_
    rintro e w' ⟨rfl, rfl⟩
    rw [HG.out]
    go_wp2
    go_ret2
    exact ⟨rfl, ((Gr.refl _).alloc _ _).drewN _⟩
theorem refday_yes (y m d : Int) (w : World) (h : ok y m d = true) :
    Calls Try.prog 12 #[.int .i64 5, .agg #[.int .i64 y, .int .i64 m, .int .i64 d]] w fun e w' => e = .returned (.tuple #[.int .i64 (num y m d), .int .i64 0]) ∧ Gr w w' := by
  have hy := ok_year h
  have hb := ok_day h
  obtain ⟨h1, h2, h3, h4⟩ := ok_iff.1 h
  have k := refday_in y m d w (by omega) (by omega) (by omega) h1 h2
  rw [if_pos hb, if_pos hb] at k
  exact k
theorem refday_no (y m d : Int) (w : World) (h : ok y m d = false) :
    Calls Try.prog 12 #[.int .i64 5, .agg #[.int .i64 y, .int .i64 m, .int .i64 d]] w fun e w' => e = .returned (.tuple #[.int .i64 0, .int .i64 2]) ∧ Gr w w' := by
  have h' := ok_not h
  by_cases a : y < -10000 ∨ 20000 < y ∨ y = 0
  · exact refday_far y m d w a
  · by_cases b : d < 1 ∨ len y m < d
    · exact refday_bad y m d w (by omega) (by omega) (by omega) b
    · have hb : ¬ Cal.dayB (num y m d) = true := by intro k; rw [Cal.dayB_iff] at k; omega
      have k := refday_in y m d w (by omega) (by omega) (by omega) (by omega) (by omega)
      rw [if_neg hb, if_neg hb] at k
      exact k
theorem refdate_no (n : Int) (w : World) (h : Cal.dayB n = false) :
    Calls Try.prog 10 #[.int .i64 5, .int .i64 n] w fun e w' => e = .returned (.tuple #[.agg #[.int .i64 0, .int .i64 0, .int .i64 0], .int .i64 2]) ∧ Gr w w' := Go.Proofs.Ytjngioanpphdkaa.refdate_no 5 n w h
/- the year between two, as the search takes it -/
def mid (a b : Int) : Int := if (a + b) / 2 = 0 then (if a = -1 then 1 else -1) else (a + b) / 2
theorem mid_in {a b : Int} (h : nx a < b) : a < mid a b ∧ mid a b < b ∧ mid a b ≠ 0 := by
  have := nx_cases a
  unfold mid; split
  · split <;> omega
  · omega
theorem nx_end {a b : Int} (b0 : b ≠ 0) (ab : a < b) (h : ¬ nx a < b) : b = nx a := by have := nx_cases a; omega
theorem dom_eq (n : Int) : n - num (yr n) (mon n) 1 + 1 = dom n := by unfold num dom; omega
theorem mon_u (n m : Int) (a : 1 ≤ m) (b : m ≤ 12) (c : num (yr n) m 1 ≤ n) (d : m < 12 → n < num (yr n) (m + 1) 1) : m = mon n := by
  simp only [num] at c d
  have y2 := yr_hi n
  have es := dby_nx (yr n)
  refine (mo_unique (y := yr n) a b (by omega) ?_).symm
  by_cases hm : m < 12
  · have := d hm; have := cum_succ (yr_ne n) a hm; omega
  · obtain rfl : m = 12 := by omega
    have := cum_12
    have := len_cases (yr n) 12
    have := yr_ne n
    omega
theorem mid_1 {a b : Int} (h : (a + b) / 2 = 0) (h2 : a = -1) : mid a b = 1 := by unfold mid; rw [if_pos h, if_pos h2]
theorem mid_2 {a b : Int} (h : (a + b) / 2 = 0) (h2 : ¬ a = -1) : mid a b = -1 := by unfold mid; rw [if_pos h, if_neg h2]
theorem mid_3 {a b : Int} (h : ¬ (a + b) / 2 = 0) : mid a b = (a + b) / 2 := by unfold mid; rw [if_neg h]
set_option maxHeartbeats 4000000 in
theorem refdate_yes (n : Int) (w : World) (h : Cal.dayB n = true) :
    Calls Try.prog 10 #[.int .i64 5, .int .i64 n] w fun e w' => e = .returned (.tuple #[.agg #[.int .i64 (yr n), .int .i64 (mon n), .int .i64 (dom n)], .int .i64 0]) ∧ Gr w w' := by
  obtain ⟨n1, n2⟩ := Cal.dayB_iff.1 h
  have H := Lib.hid h
  have HS : Hid (dby (-800) + 1 ≤ n ∧ n < dby 15000 + 1) := by
    have e1 : dby (-800) + 1 ≤ 1 := by decide
    have e2 : 3652059 < dby 15000 + 1 := by decide
    show _ ∧ _
    omega
  clear h
  go_enter Try.func10, Try.ntmps10
  go_wp2_with fail
  refine (in_any _ _).mono ?_
  rintro e w' ⟨rfl, rfl⟩
  rw [H.out]
  go_wp2_with fail
  refine (least _).mono ?_
  rintro e w' ⟨rfl, rfl⟩
  go_wp2
  go_loop [6, 7] (fun s t => ∃ a b : Int, -800 ≤ a ∧ a < b ∧ b ≤ 15000 ∧ a ≠ 0 ∧ b ≠ 0 ∧ dby a + 1 ≤ n ∧ n < dby b + 1 ∧ s = .int .i64 a ∧ t = .int .i64 b) (fun s t => (intOf t - intOf s).toNat)
  case atStart => exact ⟨-800, 15000, by omega, by omega, by omega, by omega, by omega, HS.out.1, HS.out.2, rfl, rfl⟩
  case round =>
    obtain ⟨a, b, a1, ab, b15, a0, b0, ba, bb, rfl, rfl⟩ := hrel
    have A0 := Lib.hid a0; have B0 := Lib.hid b0
    have BA := Lib.hid ba; have BB := Lib.hid bb
    clear a0 b0 ba bb
    have nc := nx_cases a
    by_cases hlt : nx a < b
    · obtain ⟨q1, q2, q3⟩ := mid_in hlt
      have Q3 := Lib.hid q3; clear q3
      have d0 : decide (nx a < b) = true := by simpa using hlt
      have g : Gives 22 #[.int .i64 5, .int .i64 (mid a b)] (dby (mid a b) + 1) := fun w => begins_any _ w (by omega) (by omega)
      by_cases hq : dby (mid a b) + 1 ≤ n
      · have HQ := Lib.hid hq
        have d1 : decide (dby (mid a b) + 1 ≤ n) = true := by simpa using hq
        clear hq
        by_cases c1 : (a + b) / 2 = 0
        · by_cases c2 : a = -1
          · have e := mid_1 c1 c2
            have c3 : ((a + b) / 2 == 0) = true := by simpa using c1
            have c4 : (a == -1) = true := by simpa using c2
            clear c1 c2
            rw [e] at Q3 HQ q1 q2 d1 g
            clear e
            go_wp2_with (first | (go_at_call 20; refine (refnext _ _ (by omega) (by omega)).mono ?_; rintro e w' ⟨rfl, rfl⟩) | (go_at_call 21; refine (floor_any _ _ _ (by omega) (by omega) (by omega)).mono ?_; rintro e w' ⟨rfl, rfl⟩) | (go_at_call 22; refine (g.on _).mono ?_; rintro e w' ⟨rfl, rfl⟩))
            go_round
            case rel => exact ⟨1, b, by omega, by omega, b15, Q3.out, B0.out, HQ.out, BB.out, rfl, rfl⟩
            case measure => simp [intOf]; omega
          · have e := mid_2 c1 c2
            have c3 : ((a + b) / 2 == 0) = true := by simpa using c1
            have c4 : (a == -1) = false := by simpa using c2
            clear c1 c2
            rw [e] at Q3 HQ q1 q2 d1 g
            clear e
            go_wp2_with (first | (go_at_call 20; refine (refnext _ _ (by omega) (by omega)).mono ?_; rintro e w' ⟨rfl, rfl⟩) | (go_at_call 21; refine (floor_any _ _ _ (by omega) (by omega) (by omega)).mono ?_; rintro e w' ⟨rfl, rfl⟩) | (go_at_call 22; refine (g.on _).mono ?_; rintro e w' ⟨rfl, rfl⟩))
            go_round
            case rel => exact ⟨-1, b, by omega, by omega, b15, Q3.out, B0.out, HQ.out, BB.out, rfl, rfl⟩
            case measure => simp [intOf]; omega
        · have e := mid_3 c1
          have c3 : ((a + b) / 2 == 0) = false := by simpa using c1
          clear c1
          rw [e] at Q3 HQ q1 q2 d1 g
          clear e
          go_wp2_with (first | (go_at_call 20; refine (refnext _ _ (by omega) (by omega)).mono ?_; rintro e w' ⟨rfl, rfl⟩) | (go_at_call 21; refine (floor_any _ _ _ (by omega) (by omega) (by omega)).mono ?_; rintro e w' ⟨rfl, rfl⟩) | (go_at_call 22; refine (g.on _).mono ?_; rintro e w' ⟨rfl, rfl⟩))
          go_round
          case rel => exact ⟨(a + b) / 2, b, by omega, by omega, b15, Q3.out, B0.out, HQ.out, BB.out, rfl, rfl⟩
          case measure => simp [intOf]; omega
      · have hq' : n < dby (mid a b) + 1 := by omega
        have HQ := Lib.hid hq'
        have d1 : decide (dby (mid a b) + 1 ≤ n) = false := by simp; omega
        clear hq hq'
        by_cases c1 : (a + b) / 2 = 0
        · by_cases c2 : a = -1
          · have e := mid_1 c1 c2
            have c3 : ((a + b) / 2 == 0) = true := by simpa using c1
            have c4 : (a == -1) = true := by simpa using c2
            clear c1 c2
            rw [e] at Q3 HQ q1 q2 d1 g
            clear e
            go_wp2_with (first | (go_at_call 20; refine (refnext _ _ (by omega) (by omega)).mono ?_; rintro e w' ⟨rfl, rfl⟩) | (go_at_call 21; refine (floor_any _ _ _ (by omega) (by omega) (by omega)).mono ?_; rintro e w' ⟨rfl, rfl⟩) | (go_at_call 22; refine (g.on _).mono ?_; rintro e w' ⟨rfl, rfl⟩))
            go_round
            case rel => exact ⟨a, 1, by omega, by omega, by omega, A0.out, Q3.out, BA.out, HQ.out, rfl, rfl⟩
            case measure => simp [intOf]; omega
          · have e := mid_2 c1 c2
            have c3 : ((a + b) / 2 == 0) = true := by simpa using c1
            have c4 : (a == -1) = false := by simpa using c2
            clear c1 c2
            rw [e] at Q3 HQ q1 q2 d1 g
            clear e
            go_wp2_with (first | (go_at_call 20; refine (refnext _ _ (by omega) (by omega)).mono ?_; rintro e w' ⟨rfl, rfl⟩) | (go_at_call 21; refine (floor_any _ _ _ (by omega) (by omega) (by omega)).mono ?_; rintro e w' ⟨rfl, rfl⟩) | (go_at_call 22; refine (g.on _).mono ?_; rintro e w' ⟨rfl, rfl⟩))
            go_round
            case rel => exact ⟨a, -1, by omega, by omega, by omega, A0.out, Q3.out, BA.out, HQ.out, rfl, rfl⟩
            case measure => simp [intOf]; omega
        · have e := mid_3 c1
          have c3 : ((a + b) / 2 == 0) = false := by simpa using c1
          clear c1
          rw [e] at Q3 HQ q1 q2 d1 g
          clear e
          go_wp2_with (first | (go_at_call 20; refine (refnext _ _ (by omega) (by omega)).mono ?_; rintro e w' ⟨rfl, rfl⟩) | (go_at_call 21; refine (floor_any _ _ _ (by omega) (by omega) (by omega)).mono ?_; rintro e w' ⟨rfl, rfl⟩) | (go_at_call 22; refine (g.on _).mono ?_; rintro e w' ⟨rfl, rfl⟩))
          go_round
          case rel => exact ⟨a, (a + b) / 2, by omega, by omega, by omega, A0.out, Q3.out, BA.out, HQ.out, rfl, rfl⟩
          case measure => simp [intOf]; omega
    · obtain rfl := nx_end B0.out ab hlt
      obtain rfl : a = yr n := (yr_unique A0.out (by have := BA.out; omega) (by have := BB.out; omega)).symm
      have d0 : decide (nx (yr n) < nx (yr n)) = false := by simp
      have f1 : Hid (num (yr n) 1 1 ≤ n) := by rw [num_1]; exact BA.out
      clear nc hlt
      go_wp2_with (go_at_call 20; refine (refnext _ _ (by omega) (by omega)).mono ?_; rintro e w' ⟨rfl, rfl⟩)
      go_loop [9] (fun s => ∃ m : Int, 1 ≤ m ∧ m ≤ 12 ∧ num (yr n) m 1 ≤ n ∧ s = .int .i64 m) (fun s => (12 - intOf s).toNat)
      case atStart => exact ⟨1, by omega, by omega, f1.out, rfl⟩
      case round =>
        obtain ⟨m, m1, m2, fm, rfl⟩ := hrel
        have gm : Gives 25 #[.int .i64 5, .int .i64 (yr n), .int .i64 m, .int .i64 1] (num (yr n) m 1) := fun w => fixed _ _ _ w (by omega) (by omega) m1 m2 (by omega) (by omega)
        have fb := num_bdw (y := yr n) (m := m) (d := 1) (by omega) (by omega) m1 m2 (by omega) (by omega)
        by_cases hm : m < 12
        · have g : Gives 25 #[.int .i64 5, .int .i64 (yr n), .int .i64 (m + 1), .int .i64 1] (num (yr n) (m + 1) 1) := fun w => fixed _ _ _ w (by omega) (by omega) (by omega) (by omega) (by omega) (by omega)
          by_cases hn : num (yr n) (m + 1) 1 ≤ n
          · go_wp2_with (first | (go_at_call 24; refine (months _ _).mono ?_; rintro e w' ⟨rfl, rfl⟩) | (go_at_call 25; refine (g.on _).mono ?_; rintro e w' ⟨rfl, rfl⟩))
            go_round
            case rel => exact ⟨m + 1, by omega, by omega, hn, rfl⟩
            case measure => simp [intOf]; omega
          · have hn' : decide (num (yr n) (m + 1) 1 ≤ n) = false := by simp; omega
            have u := mon_u n m m1 m2 fm (fun _ => by omega)
            have HU := Lib.hid u.symm
            have HD := Lib.hid (dom_eq n)
            clear u
            go_wp2_with fail
            refine (months _ _).mono ?_
            rintro e w' ⟨rfl, rfl⟩
            go_wp2_with fail
            refine (g.on _).mono ?_
            rintro e w' ⟨rfl, rfl⟩
            go_wp2_with fail
            refine (gm.on _).mono ?_
            rintro e w' ⟨rfl, rfl⟩
            go_wp2
            rw [← HD.out, HU.out]
            exact bodyPost_ret (v := .tuple #[.agg #[.int .i64 (yr n), .int .i64 m, .int .i64 (n - num (yr n) m 1 + 1)], .int .i64 0]) (by simp [results, Try.results10, go_sem]) rfl ⟨rfl, (Gr.refl _).alloc _ _⟩
        · have u := mon_u n m m1 m2 fm (fun _ => by omega)
          have HU := Lib.hid u.symm
          have HD := Lib.hid (dom_eq n)
          have hm' : decide (m < 12) = false := by simp; omega
          clear u
          go_wp2_with fail
          refine (months _ _).mono ?_
          rintro e w' ⟨rfl, rfl⟩
          go_wp2_with fail
          refine (gm.on _).mono ?_
          rintro e w' ⟨rfl, rfl⟩
          go_wp2
          rw [← HD.out, HU.out]
          exact bodyPost_ret (v := .tuple #[.agg #[.int .i64 (yr n), .int .i64 m, .int .i64 (n - num (yr n) m 1 + 1)], .int .i64 0]) (by simp [results, Try.results10, go_sem]) rfl ⟨rfl, (Gr.refl _).alloc _ _⟩
end Go.Proofs.Ytjngioanpphdkaa.Per
