/- Seconds and their parts: what package clock's functions without a text return. -/
import Derived.Test.YtafpdiikhhikeaaGreatDoorDay
import Derived.Test.YtafpdiikhhikeaaGreatDoorIn
namespace Go.Proofs.YtafpdiikhhikeaaGreatDoor
open Go.RowKit

namespace Clk
def okB (a : Int) : Bool := decide (86400 ≤ a) && decide (a ≤ 315537983999)
theorem okB_iff {a : Int} : okB a = true ↔ 86400 ≤ a ∧ a ≤ 315537983999 := by simp [okB]
theorem okB_not {a : Int} : okB a = false ↔ ¬ (86400 ≤ a ∧ a ≤ 315537983999) := by rw [← okB_iff]; simp
theorem okB_day {a : Int} (h : okB a = true) : Cal.dayB (a / 86400) = true := by
  have := okB_iff.1 h
  exact Cal.dayB_iff.2 ⟨by omega, by omega⟩
def secB (s : Int) : Bool := decide (0 ≤ s) && decide (s < 86400)
theorem secB_iff {a : Int} : secB a = true ↔ 0 ≤ a ∧ a < 86400 := by simp [secB]
def timB (h m s : Int) : Bool := decide (0 ≤ h) && decide (h ≤ 23) && decide (0 ≤ m) && decide (m ≤ 59) && decide (0 ≤ s) && decide (s ≤ 59)
theorem timB_iff {h m s : Int} : timB h m s = true ↔ 0 ≤ h ∧ h ≤ 23 ∧ 0 ≤ m ∧ m ≤ 59 ∧ 0 ≤ s ∧ s ≤ 59 := by simp [timB, and_assoc]
end Clk

set_option maxHeartbeats 400000 in
theorem cright_any (a : Int) (w : World) : Calls Tryz.prog 16 #[.int .i64 a] w fun e w' => e = .returned (.bool (Clk.okB a)) ∧ w = w' := by
  by_cases h1 : 86400 ≤ a
  · by_cases h2 : a ≤ 315537983999
    · rw [Clk.okB_iff.2 ⟨h1, h2⟩]
      go_enter Tryz.func16, Tryz.ntmps16
      go_wp2
      go_ret
      exact ⟨rfl, rfl⟩
    · rw [Clk.okB_not.2 (fun h => h2 h.2)]
      go_enter Tryz.func16, Tryz.ntmps16
      go_wp2
      go_ret
      exact ⟨rfl, rfl⟩
  · rw [Clk.okB_not.2 (fun h => h1 h.1)]
    go_enter Tryz.func16, Tryz.ntmps16
    go_wp2
    go_ret
    exact ⟨rfl, rfl⟩
set_option maxHeartbeats 400000 in
theorem rright_any (a : Int) (w : World) : Calls Tryz.prog 14 #[.int .i64 a] w fun e w' => e = .returned (.bool (Clk.okB a)) ∧ w = w' := by
  by_cases h1 : 86400 ≤ a
  · by_cases h2 : a < 315537984000
    · rw [Clk.okB_iff.2 ⟨h1, by omega⟩]
      go_enter Tryz.func14, Tryz.ntmps14
      go_wp2
      go_ret
      exact ⟨rfl, rfl⟩
    · rw [Clk.okB_not.2 (fun h => by omega)]
      go_enter Tryz.func14, Tryz.ntmps14
      go_wp2
      go_ret
      exact ⟨rfl, rfl⟩
  · rw [Clk.okB_not.2 (fun h => h1 h.1)]
    go_enter Tryz.func14, Tryz.ntmps14
    go_wp2
    go_ret
    exact ⟨rfl, rfl⟩

set_option maxHeartbeats 400000 in
theorem cday_yes (a : Int) (w : World) (h : Clk.okB a = true) : Calls Tryz.prog 12 #[.int .i64 a] w fun e w' => e = .returned (.int .i64 (a / 86400)) ∧ w = w' := by
  have hb := Clk.okB_iff.1 h
  have H := Lib.hid h; clear h
  go_enter Tryz.func12, Tryz.ntmps12
  go_wp2_with fail
  refine (cright_any _ _).mono ?_
  rintro e w' ⟨rfl, rfl⟩
  rw [H.out]
  go_wp2
  go_ret
  exact ⟨rfl, rfl⟩
set_option maxHeartbeats 400000 in
theorem cday_no (a : Int) (w : World) (h : Clk.okB a = false) : Calls Tryz.prog 12 #[.int .i64 a] w fun e w' => e = .returned (.int .i64 0) ∧ w = w' := by
  have H := Lib.hid h; clear h
  go_enter Tryz.func12, Tryz.ntmps12
  go_wp2_with fail
  refine (cright_any _ _).mono ?_
  rintro e w' ⟨rfl, rfl⟩
  rw [H.out]
  go_wp2
  go_ret
  exact ⟨rfl, rfl⟩
set_option maxHeartbeats 400000 in
theorem csec_yes (a : Int) (w : World) (h : Clk.okB a = true) : Calls Tryz.prog 17 #[.int .i64 a] w fun e w' => e = .returned (.int .i64 (a % 86400)) ∧ w = w' := by
  have hb := Clk.okB_iff.1 h
  have H := Lib.hid h; clear h
  go_enter Tryz.func17, Tryz.ntmps17
  go_wp2_with fail
  refine (cright_any _ _).mono ?_
  rintro e w' ⟨rfl, rfl⟩
  rw [H.out]
  go_wp2
  go_ret
  exact ⟨rfl, rfl⟩
set_option maxHeartbeats 400000 in
theorem csec_no (a : Int) (w : World) (h : Clk.okB a = false) : Calls Tryz.prog 17 #[.int .i64 a] w fun e w' => e = .returned (.int .i64 0) ∧ w = w' := by
  have H := Lib.hid h; clear h
  go_enter Tryz.func17, Tryz.ntmps17
  go_wp2_with fail
  refine (cright_any _ _).mono ?_
  rintro e w' ⟨rfl, rfl⟩
  rw [H.out]
  go_wp2
  go_ret
  exact ⟨rfl, rfl⟩

set_option maxHeartbeats 400000 in
theorem cat_yes (n s : Int) (w : World) (h : Cal.dayB n = true) (hs : Clk.secB s = true) : Calls Tryz.prog 31 #[.int .i64 n, .int .i64 s] w fun e w' => e = .returned (.tuple #[.int .i64 (n * 86400 + s), .int .i64 0]) ∧ w = w' := by
  obtain ⟨n1, n2⟩ := Cal.dayB_iff.1 h
  obtain ⟨s1, s2⟩ := Clk.secB_iff.1 hs
  have H := Lib.hid h; clear h hs
  have d1 : decide (s < 0) = false := by simp; omega
  have d2 : decide (86400 ≤ s) = false := by simp; omega
  go_enter Tryz.func31, Tryz.ntmps31
  go_wp2_with fail
  refine (of_any _ _).mono ?_
  rintro e w' ⟨rfl, rfl⟩
  rw [H.out]
  go_wp2
  go_ret2
  exact ⟨rfl, rfl⟩
set_option maxHeartbeats 400000 in
theorem cat_no (n s : Int) (w : World) (h : Cal.dayB n = false ∨ Clk.secB s = false) : Calls Tryz.prog 31 #[.int .i64 n, .int .i64 s] w fun e w' => e = .returned (.tuple #[.int .i64 0, .int .i64 2]) ∧ w = w' := by
  rcases hd : Cal.dayB n
  · have H := Lib.hid hd; clear h hd
    go_enter Tryz.func31, Tryz.ntmps31
    go_wp2_with fail
    refine (of_any _ _).mono ?_
    rintro e w' ⟨rfl, rfl⟩
    rw [H.out]
    go_wp2
    go_ret2
    exact ⟨rfl, rfl⟩
  · have hs : ¬ (0 ≤ s ∧ s < 86400) := by
      rw [← Clk.secB_iff]; rcases h with h | h
      · simp [h] at hd
      · simp [h]
    have H := Lib.hid hd; clear h hd
    by_cases d1 : s < 0
    · clear hs
      go_enter Tryz.func31, Tryz.ntmps31
      go_wp2_with fail
      refine (of_any _ _).mono ?_
      rintro e w' ⟨rfl, rfl⟩
      rw [H.out]
      go_wp2
      go_ret2
      exact ⟨rfl, rfl⟩
    · have d2 : 86400 ≤ s := by omega
      have d1' : decide (s < 0) = false := by simp; omega
      clear hs d1
      go_enter Tryz.func31, Tryz.ntmps31
      go_wp2_with fail
      refine (of_any _ _).mono ?_
      rintro e w' ⟨rfl, rfl⟩
      rw [H.out]
      go_wp2
      go_ret2
      exact ⟨rfl, rfl⟩

end Go.Proofs.YtafpdiikhhikeaaGreatDoor
