/- The reference's Length, Day and Date, for calendar 6. -/
import Derived.Test.YthfmfbdnafbmdaaRefCop
namespace Go.Proofs.Ythfmfbdnafbmdaa.Cop
open Go.RowKit

set_option maxHeartbeats 1000000 in
theorem begins_any (y : Int) (w : World) (y1 : -40000 ≤ y) (y2 : y ≤ 40000) :
    Calls Try.prog 27 #[.int .i64 6, .int .i64 y] w fun e w' => e = .returned (.int .i64 (dby y + 1)) ∧ w = w' := by
  have HE := Lib.hid (num_1 y)
  go_enter Try.func27, Try.ntmps27
  go_wp2_with (go_at_call 30; refine (fixed _ _ _ _ y1 y2 (by omega) (by omega) (by omega) (by omega)).mono ?_; rintro e w' ⟨rfl, rfl⟩)
  go_ret
  exact ⟨ret_int HE.out, rfl⟩
theorem reflength (y m : Int) (y1 : -39999 ≤ y) (y2 : y < 39999) : Gives 17 #[.int .i64 6, .int .i64 y, .int .i64 m] (len y m) := by
  intro w
  rw [← lenOf_eq]
  refine reflength_gen 6 y m (fun y => dby y + 1) (fun y m => num y m 1) (fun _ => 13) w rfl rfl rfl (by omega) (by omega) ⟨by decide, by decide⟩ (fun w => months y w)
    (fun w => begins_any _ w (by omega) (by omega)) (fun k k1 k2 w => fixed _ _ _ w (by omega) (by omega) k1 (by omega) (by omega) (by omega)) ?_ (fun k k1 k2 => num_bdw (by omega) (by omega) k1 (by omega) (by omega) (by omega))
  have := dby_bdw (a := y + 1) (by omega) (by omega)
  omega
theorem refday_yes (y m d : Int) (w : World) (h : ok y m d = true) :
    Calls Try.prog 15 #[.int .i64 6, .agg #[.int .i64 y, .int .i64 m, .int .i64 d]] w fun e w' => e = .returned (.tuple #[.int .i64 (num y m d), .int .i64 0]) ∧ Gr w w' := by
  have hy := ok_year h
  have hb := ok_day h
  obtain ⟨h1, h2, h3, h4⟩ := ok_iff.1 h
  obtain ⟨m1, m2⟩ := len_month h1 h2
  have hd := (len_bd y m).2
  have k := Go.Proofs.Ythfmfbdnafbmdaa.refday_yes 6 (-20000) 20000 y m d (num y m d) len w rfl years (fun _ _ => reflength y m (by omega) (by omega)) (okc_iff.2 (by omega)) (fun w => fixed _ _ _ w (by omega) (by omega) m1 (by omega) (by omega) (by omega))
  rw [if_pos hb, if_pos hb] at k
  exact k
theorem refday_no (y m d : Int) (w : World) (h : ok y m d = false) :
    Calls Try.prog 15 #[.int .i64 6, .agg #[.int .i64 y, .int .i64 m, .int .i64 d]] w fun e w' => e = .returned (.tuple #[.int .i64 0, .int .i64 2]) ∧ Gr w w' := by
  have h' := ok_not h
  cases hc : okc (-20000) 20000 len y m d
  · exact Go.Proofs.Ythfmfbdnafbmdaa.refday_no 6 (-20000) 20000 y m d len w rfl years (fun _ _ => reflength y m (by omega) (by omega)) hc
  · obtain ⟨a1, a2, a3, a4⟩ := okc_iff.1 hc
    obtain ⟨m1, m2⟩ := len_month a3 a4
    have hd := (len_bd y m).2
    have hb : ¬ Cal.dayB (num y m d) = true := by intro k; rw [Cal.dayB_iff] at k; omega
    have k := Go.Proofs.Ythfmfbdnafbmdaa.refday_yes 6 (-20000) 20000 y m d (num y m d) len w rfl years (fun _ _ => reflength y m (by omega) (by omega)) hc (fun w => fixed _ _ _ w (by omega) (by omega) m1 (by omega) (by omega) (by omega))
    rw [if_neg hb, if_neg hb] at k
    exact k
theorem refdate_yes (n : Int) (w : World) (h : Cal.dayB n = true) :
    Calls Try.prog 13 #[.int .i64 6, .int .i64 n] w fun e w' => e = .returned (.tuple #[.agg #[.int .i64 (yr n), .int .i64 (mon n), .int .i64 (dom n)], .int .i64 0]) ∧ Gr w w' := by
  obtain ⟨n1, n2⟩ := Cal.dayB_iff.1 h
  have yb := yr_bd n1 n2
  have y1 := yr_lo n
  have y2 := yr_hi n
  have e1 := num_1 (yr n)
  have k := Go.Proofs.Ythfmfbdnafbmdaa.refdate_yes 6 n (-800) (fun y => dby y + 1) (fun y m => num y m 1) (fun _ => 13) (yr n) (mon n) w rfl rfl h (by omega) (by omega) least
    (fun y a b w => begins_any _ w (by omega) (by omega)) (fun w => months _ w) ⟨by decide, by decide⟩
    (fun k k1 k2 w => fixed _ _ _ w (by omega) (by omega) k1 (by omega) (by omega) (by omega)) (fun k k1 k2 => num_bdw (by omega) (by omega) k1 (by omega) (by omega) (by omega))
    (by simp only [dby]; omega) (by simp only [dby]; omega)
    (fun y a b => (yr_unique (by omega) (by omega)).symm)
    (by rw [e1]; omega)
    (fun m a b c d => mon_u n m a b c d)
  simp only [dom_eq] at k
  exact k
theorem refdate_no (n : Int) (w : World) (h : Cal.dayB n = false) :
    Calls Try.prog 13 #[.int .i64 6, .int .i64 n] w fun e w' => e = .returned (.tuple #[.agg #[.int .i64 0, .int .i64 0, .int .i64 0], .int .i64 2]) ∧ Gr w w' := Go.Proofs.Ythfmfbdnafbmdaa.refdate_no 6 n w h
end Go.Proofs.Ythfmfbdnafbmdaa.Cop
