/- What the reference's functions return for the Gregorian calendar: gregorian, Fixed, begins, Length, Day, Date. -/
import Derived.Test.YtleeklcpbflfhaaGreatDoorZRefLeaf
import Derived.Test.YtleeklcpbflfhaaGreatDoorZB
namespace Go.Proofs.YtleeklcpbflfhaaGreatDoor
open Go.RowKit

theorem greg_le {y m d : Int} (h : m ≤ 2) : 365 * (y - 1) + (y - 1) / 4 - (y - 1) / 100 + (y - 1) / 400 + (367 * m - 362) / 12 + d = Cal.num y m d := by
  unfold Cal.num Cal.cum Cal.dby; rw [if_pos h]; omega
theorem greg_gt {y m d : Int} (h : 2 < m) : 365 * (y - 1) + (y - 1) / 4 - (y - 1) / 100 + (y - 1) / 400 + (367 * m - 362) / 12 + d - (2 - Cal.lp y) = Cal.num y m d := by
  unfold Cal.num Cal.cum Cal.dby; rw [if_neg (by omega)]; omega
set_option maxHeartbeats 1000000 in
theorem greg_any (y m d : Int) (w : World) (y1 : -40000 ≤ y) (y2 : y ≤ 40000) (m1 : 1 ≤ m) (m2 : m ≤ 13) (d1 : -100000000 ≤ d) (d2 : d ≤ 100000000) :
    Calls Tryz.prog 158 #[.int .i64 y, .int .i64 m, .int .i64 d] w fun e w' => e = .returned (.int .i64 (Cal.num y m d)) ∧ w = w' := by
  by_cases hm : m ≤ 2
  · have hd : decide (2 < m) = false := by simp; omega
    have HF := Lib.hid (greg_le (y := y) (d := d) hm)
    go_enter Tryz.func158, Tryz.ntmps158
    go_wp2_with (go_at_call 121; refine (floor_any _ _ _ (by omega) (by omega) (by omega)).mono ?_; rintro e w' ⟨rfl, rfl⟩)
    go_ret
    exact ⟨ret_int HF.out, rfl⟩
  · have hm' : 2 < m := by omega
    have hd : decide (2 < m) = true := by simp; omega
    have HF := Lib.hid (greg_gt (y := y) (d := d) hm')
    cases hl : Cal.lpB y
    · have HL := Lib.hid hl; clear hl
      go_enter Tryz.func158, Tryz.ntmps158
      go_wp2_with (first | (go_at_call 121; refine (floor_any _ _ _ (by omega) (by omega) (by omega)).mono ?_; rintro e w' ⟨rfl, rfl⟩) | (go_at_call 198; refine (refleap_any _ _ (by omega) (by omega)).mono ?_; rintro e w' ⟨rfl, rfl⟩; rw [HL.out]))
      go_ret
      exact ⟨ret_int (by rw [← HF.out, Cal.lp_f HL.out]; omega), rfl⟩
    · have HL := Lib.hid hl; clear hl
      go_enter Tryz.func158, Tryz.ntmps158
      go_wp2_with (first | (go_at_call 121; refine (floor_any _ _ _ (by omega) (by omega) (by omega)).mono ?_; rintro e w' ⟨rfl, rfl⟩) | (go_at_call 198; refine (refleap_any _ _ (by omega) (by omega)).mono ?_; rintro e w' ⟨rfl, rfl⟩; rw [HL.out]))
      go_ret
      exact ⟨ret_int (by rw [← HF.out, Cal.lp_t HL.out]; omega), rfl⟩

set_option maxHeartbeats 1000000 in
theorem fixed0_any (y m d : Int) (w : World) (y1 : -40000 ≤ y) (y2 : y ≤ 40000) (m1 : 1 ≤ m) (m2 : m ≤ 13) (d1 : -100000000 ≤ d) (d2 : d ≤ 100000000) :
    Calls Tryz.prog 125 #[.int .i64 0, .int .i64 y, .int .i64 m, .int .i64 d] w fun e w' => e = .returned (.int .i64 (Cal.num y m d)) ∧ w = w' := by
  go_enter Tryz.func125, Tryz.ntmps125
  go_wp2_with (go_at_call 158; refine (greg_any _ _ _ _ y1 y2 m1 m2 d1 d2).mono ?_; rintro e w' ⟨rfl, rfl⟩)
  go_ret
  exact ⟨rfl, rfl⟩
set_option maxHeartbeats 1000000 in
theorem begins0_any (y : Int) (w : World) (y1 : -40000 ≤ y) (y2 : y ≤ 40000) :
    Calls Tryz.prog 122 #[.int .i64 0, .int .i64 y] w fun e w' => e = .returned (.int .i64 (Cal.dby y + 1)) ∧ w = w' := by
  have HE : Hid (Cal.num y 1 1 = Cal.dby y + 1) := by show _ = _; unfold Cal.num; rw [Cal.cum_1]; omega
  go_enter Tryz.func122, Tryz.ntmps122
  go_wp2_with (go_at_call 125; refine (fixed0_any _ _ _ _ y1 y2 (by omega) (by omega) (by omega) (by omega)).mono ?_; rintro e w' ⟨rfl, rfl⟩)
  go_ret
  exact ⟨ret_int HE.out, rfl⟩
end Go.Proofs.YtleeklcpbflfhaaGreatDoor
