/- The reference's Day and Date, for calendar 3. -/
import Derived.Test.YthpdnlmjnfllcaaRefHeb
import Derived.Test.YthpdnlmjnfllcaaRefDate
namespace Go.Proofs.Ythpdnlmjnfllcaa.Heb
open Go.RowKit

theorem refday_yes (y m d : Int) (w : World) (h : ok y m d = true) :
    Calls Try.prog 13 #[.int .i64 3, .agg #[.int .i64 y, .int .i64 m, .int .i64 d]] w fun e w' => e = .returned (.tuple #[.int .i64 (num y m d), .int .i64 0]) ∧ Gr w w' := by
  obtain ⟨h1, h2, h3, h4⟩ := ok_iff.1 h
  obtain ⟨y1, y2, m1, m2⟩ := len_in h1 h2
  have lb := len_bd y m
  have k := Go.Proofs.Ythpdnlmjnfllcaa.refday_yes 3 1 20000 y m d (num y m d) len w rfl years (fun a b => reflength y m a b) (okc_iff.2 ⟨y1, y2, h1, h2⟩) (fun w => fixed y m d w y1 y2 m1 m2 (by omega) (by omega))
  rw [if_pos (ok_day h), if_pos (ok_day h)] at k
  exact k
theorem refday_no (y m d : Int) (w : World) (h : ok y m d = false) :
    Calls Try.prog 13 #[.int .i64 3, .agg #[.int .i64 y, .int .i64 m, .int .i64 d]] w fun e w' => e = .returned (.tuple #[.int .i64 0, .int .i64 2]) ∧ Gr w w' := by
  have h' := ok_not h
  cases c : okc 1 20000 len y m d
  · exact Go.Proofs.Ythpdnlmjnfllcaa.refday_no 3 1 20000 y m d len w rfl years (fun a b => reflength y m a b) c
  · obtain ⟨y1, y2, h1, h2⟩ := okc_iff.1 c
    obtain ⟨_, _, m1, m2⟩ := len_in h1 h2
    have lb := len_bd y m
    have k := Go.Proofs.Ythpdnlmjnfllcaa.refday_yes 3 1 20000 y m d (num y m d) len w rfl years (fun a b => reflength y m a b) c (fun w => fixed y m d w y1 y2 m1 m2 (by omega) (by omega))
    have hb : ¬ Cal.dayB (num y m d) = true := by intro k; rw [Cal.dayB_iff] at k; omega
    rw [if_neg hb, if_neg hb] at k
    exact k
theorem refdate_no (n : Int) (w : World) (h : Cal.dayB n = false) :
    Calls Try.prog 11 #[.int .i64 3, .int .i64 n] w fun e w' => e = .returned (.tuple #[.agg #[.int .i64 0, .int .i64 0, .int .i64 0], .int .i64 2]) ∧ Gr w w' := Go.Proofs.Ythpdnlmjnfllcaa.refdate_no 3 n w h
theorem mon_is {n m : Int} (y1 : 1 ≤ yr n) (y2 : yr n ≤ 20000) (m1 : 1 ≤ m) (m2 : m ≤ mc (yr n)) (a : 0 ≤ n - num (yr n) m 1) (b : n - num (yr n) m 1 < hm (yr n) m) : mon n = m ∧ dom n = n - num (yr n) m 1 + 1 := by
  have l := len_hm y1 y2 m1 m2
  unfold num at *
  have e : mon n = m := mo_unique y1 y2 m1 m2 (by omega) (by omega)
  exact ⟨e, by unfold dom; rw [e]; omega⟩
theorem mon_at {n : Int} (n1 : 1 ≤ n) (n2 : n ≤ 3652059) : 0 ≤ n - num (yr n) (mon n) 1 ∧ n - num (yr n) (mon n) 1 < hm (yr n) (mon n) := by
  have s := yr_spec n1 n2
  obtain ⟨a, b, c, d⟩ := mon_spec n1 n2
  have l := len_hm (by omega) (by omega) a b
  unfold num; omega
set_option maxHeartbeats 4000000 in
theorem hdate_any (n : Int) (w : World) (n1 : 1 ≤ n) (n2 : n ≤ 3652059) :
    Calls Try.prog 30 #[.int .i64 (yr n), .int .i64 n] w fun e w' => e = .returned (.agg #[.int .i64 (yr n), .int .i64 (mon n), .int .i64 (dom n)]) ∧ Gr w w' := by
  obtain ⟨y1, y2, _, _⟩ := yr_spec n1 n2
  obtain ⟨q1, q2, _, _⟩ := mon_spec n1 n2
  have HA := Lib.hid (mon_at n1 n2)
  have mb := mc_bd (yr n)
  have a := ny_bd (y := yr n) (by omega) (by omega)
  go_enter Try.func30, Try.ntmps30
  go_wp2
  go_loop [5] (fun i => ∃ m : Int, 1 ≤ m ∧ m ≤ mon n ∧ i = .int .i64 m) (fun i => (14 - intOf i).toNat)
  case atStart => exact ⟨1, by omega, q1, rfl⟩
  case round =>
    obtain ⟨m, m1, m2, rfl⟩ := hrel
    have m3 : m ≤ mc (yr n) := by omega
    have kb := cum_end (y := yr n) (m := m) (by omega) (by omega) m1 m3
    have yb := yl_bd (y := yr n) (by omega) (by omega)
    have lb := len_bd (yr n) m
    have nb1 : -20001000 ≤ num (yr n) m 1 := by unfold num; omega
    have nb2 : num (yr n) m 1 ≤ 20001000 := by unfold num; omega
    clear kb yb lb
    by_cases e : m = mon n
    · have f1 : 0 ≤ n - num (yr n) m 1 := by rw [e]; exact HA.out.1
      have f2 : n - num (yr n) m 1 < hm (yr n) m := by rw [e]; exact HA.out.2
      have HM := Lib.hid (mon_is (by omega) (by omega) m1 m3 f1 f2)
      have d1 : decide (num (yr n) m 1 ≤ n) = true := by simp; omega
      have d2 : decide (n - num (yr n) m 1 < hm (yr n) m) = true := by simpa using f2
      clear e
      go_wp2_with (first | (go_at_call 20; refine (months _ _ (by omega) (by omega)).mono ?_; rintro e w' ⟨rfl, rfl⟩) | (go_at_call 39; refine (hebrew_any _ _ _ _ (by omega) (by omega) m1 m3 (by omega) (by omega)).mono ?_; rintro e w' ⟨rfl, rfl⟩) | (go_at_call 32; refine (hmonth_any _ _ _ (by omega) (by omega) (by omega) (by omega)).mono ?_; rintro e w' ⟨rfl, rfl⟩))
      rw [HM.out.1, HM.out.2]
      exact bodyPost_ret (v := .agg #[.int .i64 (yr n), .int .i64 m, .int .i64 (n - num (yr n) m 1 + 1)]) (by simp [results, Try.results30, go_sem]) rfl ⟨rfl, (Gr.refl _).alloc _ _⟩
    · have m4 : m + 1 ≤ mon n := by omega
      have E := Lib.hid e; clear e
      by_cases f1 : 0 ≤ n - num (yr n) m 1
      · have f2 : decide (n - num (yr n) m 1 < hm (yr n) m) = false := by
          have f3 : ¬ n - num (yr n) m 1 < hm (yr n) m := fun f3 => E.out (mon_is (by omega) (by omega) m1 m3 f1 f3).1.symm
          simpa using f3
        have d1 : decide (num (yr n) m 1 ≤ n) = true := by simp; omega
        go_wp2_with (first | (go_at_call 20; refine (months _ _ (by omega) (by omega)).mono ?_; rintro e w' ⟨rfl, rfl⟩) | (go_at_call 39; refine (hebrew_any _ _ _ _ (by omega) (by omega) m1 m3 (by omega) (by omega)).mono ?_; rintro e w' ⟨rfl, rfl⟩) | (go_at_call 32; refine (hmonth_any _ _ _ (by omega) (by omega) (by omega) (by omega)).mono ?_; rintro e w' ⟨rfl, rfl⟩))
        go_round
        case rel => exact ⟨m + 1, by omega, m4, rfl⟩
        case measure => simp [intOf]; omega
      · have d1 : decide (num (yr n) m 1 ≤ n) = false := by simp; omega
        clear f1
        go_wp2_with (first | (go_at_call 20; refine (months _ _ (by omega) (by omega)).mono ?_; rintro e w' ⟨rfl, rfl⟩) | (go_at_call 39; refine (hebrew_any _ _ _ _ (by omega) (by omega) m1 m3 (by omega) (by omega)).mono ?_; rintro e w' ⟨rfl, rfl⟩) | (go_at_call 32; refine (hmonth_any _ _ _ (by omega) (by omega) (by omega) (by omega)).mono ?_; rintro e w' ⟨rfl, rfl⟩))
        go_round
        case rel => exact ⟨m + 1, by omega, m4, rfl⟩
        case measure => simp [intOf]; omega
set_option maxHeartbeats 4000000 in
theorem refdate_yes (n : Int) (w : World) (h : Cal.dayB n = true) :
    Calls Try.prog 11 #[.int .i64 3, .int .i64 n] w fun e w' => e = .returned (.tuple #[.agg #[.int .i64 (yr n), .int .i64 (mon n), .int .i64 (dom n)], .int .i64 0]) ∧ Gr w w' := by
  obtain ⟨n1, n2⟩ := Cal.dayB_iff.1 h
  have H := Lib.hid h
  have HS := Lib.hid ends
  clear h
  go_enter Try.func11, Try.ntmps11
  go_wp2_with fail
  refine (in_any _ _).mono ?_
  rintro e w' ⟨rfl, rfl⟩
  rw [H.out]
  go_wp2_with fail
  refine (least _).mono ?_
  rintro e w' ⟨rfl, rfl⟩
  go_wp2
  go_loop [6, 7] (fun s t => ∃ a b : Int, 3000 ≤ a ∧ a < b ∧ b ≤ 15000 ∧ ny a ≤ n ∧ n < ny b ∧ s = .int .i64 a ∧ t = .int .i64 b) (fun s t => (intOf t - intOf s).toNat)
  case atStart => exact ⟨3000, 15000, by omega, by omega, by omega, by have := HS.out.1; omega, by have := HS.out.2; omega, rfl, rfl⟩
  case round =>
    obtain ⟨a, b, a1, ab, b15, ba, bb, rfl, rfl⟩ := hrel
    by_cases hlt : a + 1 < b
    · have q1 : a < (a + b) / 2 := by omega
      have q2 : (a + b) / 2 < b := by omega
      have g : Gives 29 #[.int .i64 3, .int .i64 ((a + b) / 2)] (ny ((a + b) / 2)) := fun w => refbegins_any _ w (by omega) (by omega)
      by_cases hq : ny ((a + b) / 2) ≤ n
      · go_wp2_with (first | (go_at_call 27; refine (Go.Proofs.Ythpdnlmjnfllcaa.next_any _ _ _ rfl (by omega) (by omega)).mono ?_; rintro e w' ⟨rfl, rfl⟩) | (go_at_call 28; refine (floor_any _ _ _ (by omega) (by omega) (by omega)).mono ?_; rintro e w' ⟨rfl, rfl⟩) | (go_at_call 29; refine (g.on _).mono ?_; rintro e w' ⟨rfl, rfl⟩))
        go_round
        case rel => exact ⟨(a + b) / 2, b, by omega, q2, b15, hq, bb, rfl, rfl⟩
        case measure => simp [intOf]; omega
      · have hq' : n < ny ((a + b) / 2) := by omega
        go_wp2_with (first | (go_at_call 27; refine (Go.Proofs.Ythpdnlmjnfllcaa.next_any _ _ _ rfl (by omega) (by omega)).mono ?_; rintro e w' ⟨rfl, rfl⟩) | (go_at_call 28; refine (floor_any _ _ _ (by omega) (by omega) (by omega)).mono ?_; rintro e w' ⟨rfl, rfl⟩) | (go_at_call 29; refine (g.on _).mono ?_; rintro e w' ⟨rfl, rfl⟩))
        go_round
        case rel => exact ⟨a, (a + b) / 2, a1, q1, by omega, ba, hq', rfl, rfl⟩
        case measure => simp [intOf]; omega
    · obtain rfl : b = a + 1 := by omega
      obtain rfl : a = yr n := (yr_unique (by omega) (by omega) ba bb).symm
      go_wp2_with (go_at_call 27; refine (Go.Proofs.Ythpdnlmjnfllcaa.next_any _ _ _ rfl (by omega) (by omega)).mono ?_; rintro e w' ⟨rfl, rfl⟩)
      refine (hdate_any _ _ n1 n2).mono ?_
      rintro e w' ⟨rfl, hb⟩
      obtain ⟨c0, c1, c2⟩ := box3 hb
      have f0 := box_free hb 0
      have f1 := box_free hb 1
      have f2 := box_free hb 2
      go_wp2
      obtain ⟨c0, c1, c2⟩ := box_set3 c0 c1 c2 (.int .i64 (yr n)) (.int .i64 (mon n)) (.int .i64 (dom n))
      have hg := gr_set3 hb (.int .i64 (yr n)) (.int .i64 (mon n)) (.int .i64 (dom n))
      generalize World.setCell _ _ _ = W at *
      exact bodyPost_ret (v := .tuple #[.agg #[.int .i64 (yr n), .int .i64 (mon n), .int .i64 (dom n)], .int .i64 0]) (by simp [results, Try.results11, go_sem, c0, c1, c2]) rfl ⟨rfl, hg⟩
end Go.Proofs.Ythpdnlmjnfllcaa.Heb
