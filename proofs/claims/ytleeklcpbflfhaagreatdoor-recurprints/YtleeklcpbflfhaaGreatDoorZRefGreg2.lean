/- The reference's Length, Day and Date, for the Gregorian calendar. -/
import Derived.Test.YtleeklcpbflfhaaGreatDoorZRefGreg
import Derived.Test.YtleeklcpbflfhaaGreatDoorZRefDate
namespace Go.Proofs.YtleeklcpbflfhaaGreatDoor
open Go.RowKit

theorem lenOf0 (y m : Int) : lenOf (fun y => Cal.dby y + 1) (fun y m => Cal.num y m 1) (fun _ => 12) y m = Cal.dim y m := by
  unfold lenOf
  by_cases h : m < 1 ∨ 12 < m
  · rw [if_pos h, Cal.dim_out y h]
  · rw [if_neg h]
    have s := Cal.cum_succ y (m := m) (by omega) (by omega)
    by_cases h2 : m < 12
    · rw [if_pos h2]; simp only [Cal.num]; omega
    · rw [if_neg h2]
      obtain rfl : m = 12 := by omega
      have e : Cal.cum y (12 + 1) = Cal.cum y 13 := rfl
      have c := Cal.cum_13 y
      have d := Cal.dby_succ y
      simp only [Cal.num]; omega
theorem num_bdw {y m d : Int} (y1 : -40000 ≤ y) (y2 : y ≤ 40000) (m1 : 1 ≤ m) (m2 : m ≤ 13) (d1 : 0 ≤ d) (d2 : d ≤ 1000) : -100000000 ≤ Cal.num y m d ∧ Cal.num y m d ≤ 100000000 := by
  have := Cal.dby_bdw y1 y2
  have := Cal.cum_bd y m1 m2
  unfold Cal.num; omega
theorem reflength0 (y m : Int) (y1 : -39999 ≤ y) (y2 : y < 39999) : Gives 185 #[.int .i64 0, .int .i64 y, .int .i64 m] (Cal.dim y m) := by
  intro w
  rw [← lenOf0]
  refine reflength_gen 0 y m (fun y => Cal.dby y + 1) (fun y m => Cal.num y m 1) (fun _ => 12) w rfl rfl rfl (by omega) (by omega) ⟨by decide, by decide⟩ (fun w => months12_any 0 y w rfl rfl rfl)
    (fun w => begins0_any _ w (by omega) (by omega)) (fun k k1 k2 w => fixed0_any _ _ _ w (by omega) (by omega) k1 (by omega) (by omega) (by omega)) ?_ (fun k k1 k2 => num_bdw (by omega) (by omega) k1 (by omega) (by omega) (by omega))
  have := Cal.dby_bdw (a := y + 1) (by omega) (by omega)
  omega
theorem okc0 (y m d : Int) : okc 1 9999 Cal.dim y m d = Cal.okB y m d := rfl
theorem refday0_no (y m d : Int) (w : World) (h : Cal.okB y m d = false) :
    Calls Tryz.prog 144 #[.int .i64 0, .agg #[.int .i64 y, .int .i64 m, .int .i64 d]] w fun e w' => e = .returned (.tuple #[.int .i64 0, .int .i64 2]) ∧ Gr w w' :=
  refday_no 0 1 9999 y m d Cal.dim w rfl years0_any (fun _ _ => reflength0 y m (by omega) (by omega)) h
theorem refday0_yes (y m d : Int) (w : World) (h : Cal.okB y m d = true) :
    Calls Tryz.prog 144 #[.int .i64 0, .agg #[.int .i64 y, .int .i64 m, .int .i64 d]] w fun e w' => e = .returned (.tuple #[.int .i64 (Cal.num y m d), .int .i64 0]) ∧ Gr w w' := by
  obtain ⟨m1, m2⟩ := Cal.okB_month h
  have hb : Cal.dayB (Cal.num y m d) = true := Cal.dayB_iff.2 (Cal.num_bd h)
  have h' := Cal.okB_iff.1 h
  have hd := (Cal.dim_bd y m).2
  have k := refday_yes 0 1 9999 y m d (Cal.num y m d) Cal.dim w rfl years0_any (fun _ _ => reflength0 y m (by omega) (by omega)) h (fun w => fixed0_any _ _ _ w (by omega) (by omega) m1 (by omega) (by omega) (by omega))
  rw [if_pos hb, if_pos hb] at k
  exact k
theorem refdate0_yes (n : Int) (w : World) (h : Cal.dayB n = true) :
    Calls Tryz.prog 89 #[.int .i64 0, .int .i64 n] w fun e w' => e = .returned (.tuple #[.agg #[.int .i64 (Cal.yr n), .int .i64 (Cal.mon n), .int .i64 (Cal.dom n)], .int .i64 0]) ∧ Gr w w' := by
  obtain ⟨n1, n2⟩ := Cal.dayB_iff.1 h
  have yb := Cal.yr_bd n1 n2
  have y1 := Cal.yr_lo n
  have y2 := Cal.yr_hi n
  have c1 := Cal.cum_1 (Cal.yr n)
  have c13 := Cal.cum_13 (Cal.yr n)
  have es := Cal.dby_succ (Cal.yr n)
  have e : n - Cal.num (Cal.yr n) (Cal.mon n) 1 + 1 = Cal.dom n := by unfold Cal.num Cal.dom; omega
  have k := refdate_yes 0 n 1 (fun y => Cal.dby y + 1) (fun y m => Cal.num y m 1) (fun _ => 12) (Cal.yr n) (Cal.mon n) w rfl rfl h (by omega) (by omega) least0_any
    (fun y a b w => begins0_any _ w (by omega) (by omega)) (fun w => months12_any 0 _ w rfl rfl rfl) ⟨by decide, by decide⟩
    (fun k k1 k2 w => fixed0_any _ _ _ w (by omega) (by omega) k1 (by omega) (by omega) (by omega)) (fun k k1 k2 => num_bdw (by omega) (by omega) k1 (by omega) (by omega) (by omega))
    (by have := Cal.dby_1; simp; omega) (by have := Cal.dby_mono (a := 10000) (b := 15000) (by omega); have := Cal.dby_10000; simp; omega)
    (fun y a b => (Cal.yr_unique (by omega) (by omega)).symm)
    (by simp only [Cal.num]; omega)
    (fun m a b c d => by
      simp only [Cal.num] at b c d
      refine (Cal.mo_unique a b (by omega) ?_).symm
      by_cases hm : m < 12
      · have := d hm; omega
      · obtain rfl : m = 12 := by omega
        have e : Cal.cum (Cal.yr n) (12 + 1) = Cal.cum (Cal.yr n) 13 := rfl
        omega)
  simp only [e] at k
  exact k
end Go.Proofs.YtleeklcpbflfhaaGreatDoor
