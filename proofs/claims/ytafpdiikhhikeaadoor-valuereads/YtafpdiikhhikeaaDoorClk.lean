/- Seconds and their parts: what package clock's functions without a text return. -/
import Derived.Test.YtafpdiikhhikeaaDoorDay
import Derived.Test.YtafpdiikhhikeaaDoorIn
namespace Go.Proofs.YtafpdiikhhikeaaDoor
open Go.RowKit

namespace Clk
def okB (a : Int) : Bool := decide (86400 ≤ a) && decide (a ≤ 315537983999)
theorem okB_iff {a : Int} : okB a = true ↔ 86400 ≤ a ∧ a ≤ 315537983999 := by simp [okB]
theorem okB_not {a : Int} : okB a = false ↔ ¬ (86400 ≤ a ∧ a ≤ 315537983999) := by rw [← okB_iff]; simp
theorem okB_day {a : Int} (h : okB a = true) : Cal.dayB (a / 86400) = true := by
  have := okB_iff.1 h
  exact Cal.dayB_iff.2 ⟨by omega, by omega⟩
def secB (s : Int) : Bool := decide (0 ≤ s) && decide (s < 86400)
theorem secB_iff {a : Int} : secB a = true ↔ 0 ≤ a ∧ a < 86400 := by simp [secB]
def timB (h m s : Int) : Bool := decide (0 ≤ h) && decide (h ≤ 23) && decide (0 ≤ m) && decide (m ≤ 59) && decide (0 ≤ s) && decide (s ≤ 59)
theorem timB_iff {h m s : Int} : timB h m s = true ↔ 0 ≤ h ∧ h ≤ 23 ∧ 0 ≤ m ∧ m ≤ 59 ∧ 0 ≤ s ∧ s ≤ 59 := by simp [timB, and_assoc]
end Clk

set_option maxHeartbeats 400000 in
theorem cat_yes (n s : Int) (w : World) (h : Cal.dayB n = true) (hs : Clk.secB s = true) : Calls Tryd.prog 41 #[.int .i64 n, .int .i64 s] w fun e w' => e = .returned (.tuple #[.int .i64 (n * 86400 + s), .int .i64 0]) ∧ w = w' := by
  obtain ⟨n1, n2⟩ := Cal.dayB_iff.1 h
  obtain ⟨s1, s2⟩ := Clk.secB_iff.1 hs
  have H := Lib.hid h; clear h hs
  have d1 : decide (s < 0) = false := by simp; omega
  have d2 : decide (86400 ≤ s) = false := by simp; omega
  go_enter Tryd.func41, Tryd.ntmps41
  go_wp2_with fail
  refine (of_any _ _).mono ?_
  rintro e w' ⟨rfl, rfl⟩
  rw [H.out]
  go_wp2
  go_ret2
  exact ⟨rfl, rfl⟩
set_option maxHeartbeats 400000 in
theorem cat_no (n s : Int) (w : World) (h : Cal.dayB n = false ∨ Clk.secB s = false) : Calls Tryd.prog 41 #[.int .i64 n, .int .i64 s] w fun e w' => e = .returned (.tuple #[.int .i64 0, .int .i64 2]) ∧ w = w' := by
  rcases hd : Cal.dayB n
  · have H := Lib.hid hd; clear h hd
    go_enter Tryd.func41, Tryd.ntmps41
    go_wp2_with fail
    refine (of_any _ _).mono ?_
    rintro e w' ⟨rfl, rfl⟩
    rw [H.out]
    go_wp2
    go_ret2
    exact ⟨rfl, rfl⟩
  · have hs : ¬ (0 ≤ s ∧ s < 86400) := by
      rw [← Clk.secB_iff]; rcases h with h | h
      · simp [h] at hd
      · simp [h]
    have H := Lib.hid hd; clear h hd
    by_cases d1 : s < 0
    · clear hs
      go_enter Tryd.func41, Tryd.ntmps41
      go_wp2_with fail
      refine (of_any _ _).mono ?_
      rintro e w' ⟨rfl, rfl⟩
      rw [H.out]
      go_wp2
      go_ret2
      exact ⟨rfl, rfl⟩
    · have d2 : 86400 ≤ s := by omega
      have d1' : decide (s < 0) = false := by simp; omega
      clear hs d1
      go_enter Tryd.func41, Tryd.ntmps41
      go_wp2_with fail
      refine (of_any _ _).mono ?_
      rintro e w' ⟨rfl, rfl⟩
      rw [H.out]
      go_wp2
      go_ret2
      exact ⟨rfl, rfl⟩

end Go.Proofs.YtafpdiikhhikeaaDoor
