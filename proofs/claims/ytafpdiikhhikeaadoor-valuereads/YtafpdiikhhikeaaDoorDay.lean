/- What rata.Day returns. -/
import Derived.Test.YtafpdiikhhikeaaDoorRata
namespace Go.Proofs.YtafpdiikhhikeaaDoor
open Go.RowKit

set_option maxHeartbeats 1000000 in
theorem day_no (y m d : Int) (w : World) (h : Cal.okB y m d = false) :
    Calls Tryd.prog 56 #[.agg #[.int .i64 y, .int .i64 m, .int .i64 d]] w fun e w' => e = .returned (.tuple #[.int .i64 0, .int .i64 2]) ∧ Gr w w' := by
  have H := Lib.hid h; clear h
  go_enter Tryd.func56, Tryd.ntmps56
  go_wp2_with fail
  refine (right_any _ _ _ _).mono ?_
  rintro e w1 ⟨rfl, hb⟩
  rw [H.out]
  go_wp2
  go_ret2
  exact ⟨rfl, ((Gr.refl _).alloc _ _).trans hb⟩

set_option maxHeartbeats 1000000 in
theorem day_yes (y m d : Int) (w : World) (h : Cal.okB y m d = true) :
    Calls Tryd.prog 56 #[.agg #[.int .i64 y, .int .i64 m, .int .i64 d]] w fun e w' => e = .returned (.tuple #[.int .i64 (Cal.num y m d), .int .i64 0]) ∧ Gr w w' := by
  obtain ⟨m1, m2⟩ := Cal.okB_month h
  have hn := Cal.num_bd h
  have h' := Cal.okB_iff.1 h
  obtain ⟨y1, y2, d1, d2⟩ := h'
  have hd := (Cal.dim_bd y m).2
  have hby := Cal.dby_bd (a := y) (by omega) (by omega)
  have H := Lib.hid h; clear h
  go_enter Tryd.func56, Tryd.ntmps56
  go_wp2_with fail
  refine (right_any _ _ _ _).mono ?_
  rintro e w1 ⟨rfl, hb⟩
  rw [H.out]
  obtain ⟨c0, c1, c2⟩ := box3 hb
  go_wp2
  go_quiet ((go_at_call 67; exact qsame (before_any _ _ (by omega) (by omega))))
  go_wp2
  go_loop [4, 5] (fun t i => ∃ k : Int, 1 ≤ k ∧ k ≤ m ∧ i = .int .i64 k ∧ t = .int .i64 (Cal.num y k d)) (fun _ i => (m - intOf i).toNat)
  case atStart => exact ⟨1, by omega, by omega, rfl, by simp [Cal.num, Cal.cum_1]⟩
  case round =>
    obtain ⟨k, k1, k2, rfl, rfl⟩ := hrel
    have kb := Cal.cum_bd y k1 (by omega)
    have ld := Cal.dim_bd y k
    have nb : 0 ≤ Cal.num y k d ∧ Cal.num y k d ≤ 9000000 := by unfold Cal.num; omega
    by_cases hlt : k < m
    · have s := Cal.cum_succ y k1 (by omega)
      have HS : Hid (Cal.num y (k + 1) d = Cal.num y k d + Cal.dim y k) := by unfold Cal.num; show _ = _; omega
      clear s
      go_wp2_with (go_at_call 68; refine (length_any _ _ _).mono ?_; rintro e w' ⟨rfl, rfl⟩)
      go_round
      case rel => exact ⟨k + 1, by omega, by omega, rfl, by rw [HS.out]⟩
      case measure => simp [intOf]; omega
    · go_wp2
      go_ret2
      obtain rfl : k = m := by omega
      exact ⟨rfl, (((Gr.refl _).alloc _ _).trans hb).drewN _⟩

end Go.Proofs.YtafpdiikhhikeaaDoor
