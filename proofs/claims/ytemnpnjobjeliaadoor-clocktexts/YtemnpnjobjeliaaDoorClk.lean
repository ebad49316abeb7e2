/- Seconds and their parts: what package clock's functions without a text return. -/
import Derived.Test.YtemnpnjobjeliaaDoorDay
import Derived.Test.YtemnpnjobjeliaaDoorIn
namespace Go.Proofs.YtemnpnjobjeliaaDoor
open Go.RowKit

namespace Clk
def okB (a : Int) : Bool := decide (86400 ≤ a) && decide (a ≤ 315537983999)
theorem okB_iff {a : Int} : okB a = true ↔ 86400 ≤ a ∧ a ≤ 315537983999 := by simp [okB]
theorem okB_not {a : Int} : okB a = false ↔ ¬ (86400 ≤ a ∧ a ≤ 315537983999) := by rw [← okB_iff]; simp
theorem okB_day {a : Int} (h : okB a = true) : Cal.dayB (a / 86400) = true := by
  have := okB_iff.1 h
  exact Cal.dayB_iff.2 ⟨by omega, by omega⟩
def secB (s : Int) : Bool := decide (0 ≤ s) && decide (s < 86400)
theorem secB_iff {a : Int} : secB a = true ↔ 0 ≤ a ∧ a < 86400 := by simp [secB]
def timB (h m s : Int) : Bool := decide (0 ≤ h) && decide (h ≤ 23) && decide (0 ≤ m) && decide (m ≤ 59) && decide (0 ≤ s) && decide (s ≤ 59)
theorem timB_iff {h m s : Int} : timB h m s = true ↔ 0 ≤ h ∧ h ≤ 23 ∧ 0 ≤ m ∧ m ≤ 59 ∧ 0 ≤ s ∧ s ≤ 59 := by simp [timB, and_assoc]
end Clk

set_option maxHeartbeats 400000 in
theorem cright_any (a : Int) (w : World) : Calls Tryd.prog 11 #[.int .i64 a] w fun e w' => e = .returned (.bool (Clk.okB a)) ∧ w = w' := by
  by_cases h1 : 86400 ≤ a
  · by_cases h2 : a ≤ 315537983999
    · rw [Clk.okB_iff.2 ⟨h1, h2⟩]
      go_enter Tryd.func11, Tryd.ntmps11
      go_wp2
      go_ret
      exact ⟨rfl, rfl⟩
    · rw [Clk.okB_not.2 (fun h => h2 h.2)]
      go_enter Tryd.func11, Tryd.ntmps11
      go_wp2
      go_ret
      exact ⟨rfl, rfl⟩
  · rw [Clk.okB_not.2 (fun h => h1 h.1)]
    go_enter Tryd.func11, Tryd.ntmps11
    go_wp2
    go_ret
    exact ⟨rfl, rfl⟩
set_option maxHeartbeats 400000 in
theorem rright_any (a : Int) (w : World) : Calls Tryd.prog 10 #[.int .i64 a] w fun e w' => e = .returned (.bool (Clk.okB a)) ∧ w = w' := by
  by_cases h1 : 86400 ≤ a
  · by_cases h2 : a < 315537984000
    · rw [Clk.okB_iff.2 ⟨h1, by omega⟩]
      go_enter Tryd.func10, Tryd.ntmps10
      go_wp2
      go_ret
      exact ⟨rfl, rfl⟩
    · rw [Clk.okB_not.2 (fun h => by omega)]
      go_enter Tryd.func10, Tryd.ntmps10
      go_wp2
      go_ret
      exact ⟨rfl, rfl⟩
  · rw [Clk.okB_not.2 (fun h => h1 h.1)]
    go_enter Tryd.func10, Tryd.ntmps10
    go_wp2
    go_ret
    exact ⟨rfl, rfl⟩

set_option maxHeartbeats 400000 in
theorem cday_yes (a : Int) (w : World) (h : Clk.okB a = true) : Calls Tryd.prog 12 #[.int .i64 a] w fun e w' => e = .returned (.int .i64 (a / 86400)) ∧ w = w' := by
  have hb := Clk.okB_iff.1 h
  have H := Lib.hid h; clear h
  go_enter Tryd.func12, Tryd.ntmps12
  go_wp2_with fail
  refine (cright_any _ _).mono ?_
  rintro e w' ⟨rfl, rfl⟩
  rw [H.out]
  go_wp2
  go_ret
  exact ⟨rfl, rfl⟩
set_option maxHeartbeats 400000 in
theorem cday_no (a : Int) (w : World) (h : Clk.okB a = false) : Calls Tryd.prog 12 #[.int .i64 a] w fun e w' => e = .returned (.int .i64 0) ∧ w = w' := by
  have H := Lib.hid h; clear h
  go_enter Tryd.func12, Tryd.ntmps12
  go_wp2_with fail
  refine (cright_any _ _).mono ?_
  rintro e w' ⟨rfl, rfl⟩
  rw [H.out]
  go_wp2
  go_ret
  exact ⟨rfl, rfl⟩
set_option maxHeartbeats 400000 in
theorem csec_yes (a : Int) (w : World) (h : Clk.okB a = true) : Calls Tryd.prog 13 #[.int .i64 a] w fun e w' => e = .returned (.int .i64 (a % 86400)) ∧ w = w' := by
  have hb := Clk.okB_iff.1 h
  have H := Lib.hid h; clear h
  go_enter Tryd.func13, Tryd.ntmps13
  go_wp2_with fail
  refine (cright_any _ _).mono ?_
  rintro e w' ⟨rfl, rfl⟩
  rw [H.out]
  go_wp2
  go_ret
  exact ⟨rfl, rfl⟩
set_option maxHeartbeats 400000 in
theorem csec_no (a : Int) (w : World) (h : Clk.okB a = false) : Calls Tryd.prog 13 #[.int .i64 a] w fun e w' => e = .returned (.int .i64 0) ∧ w = w' := by
  have H := Lib.hid h; clear h
  go_enter Tryd.func13, Tryd.ntmps13
  go_wp2_with fail
  refine (cright_any _ _).mono ?_
  rintro e w' ⟨rfl, rfl⟩
  rw [H.out]
  go_wp2
  go_ret
  exact ⟨rfl, rfl⟩

set_option maxHeartbeats 400000 in
theorem cat_yes (n s : Int) (w : World) (h : Cal.dayB n = true) (hs : Clk.secB s = true) : Calls Tryd.prog 16 #[.int .i64 n, .int .i64 s] w fun e w' => e = .returned (.tuple #[.int .i64 (n * 86400 + s), .int .i64 0]) ∧ w = w' := by
  obtain ⟨n1, n2⟩ := Cal.dayB_iff.1 h
  obtain ⟨s1, s2⟩ := Clk.secB_iff.1 hs
  have H := Lib.hid h; clear h hs
  have d1 : decide (s < 0) = false := by simp; omega
  have d2 : decide (86400 ≤ s) = false := by simp; omega
  go_enter Tryd.func16, Tryd.ntmps16
  go_wp2_with fail
  refine (of_any _ _).mono ?_
  rintro e w' ⟨rfl, rfl⟩
  rw [H.out]
  go_wp2
  go_ret2
  exact ⟨rfl, rfl⟩
set_option maxHeartbeats 400000 in
theorem cat_no (n s : Int) (w : World) (h : Cal.dayB n = false ∨ Clk.secB s = false) : Calls Tryd.prog 16 #[.int .i64 n, .int .i64 s] w fun e w' => e = .returned (.tuple #[.int .i64 0, .int .i64 2]) ∧ w = w' := by
  rcases hd : Cal.dayB n
  · have H := Lib.hid hd; clear h hd
    go_enter Tryd.func16, Tryd.ntmps16
    go_wp2_with fail
    refine (of_any _ _).mono ?_
    rintro e w' ⟨rfl, rfl⟩
    rw [H.out]
    go_wp2
    go_ret2
    exact ⟨rfl, rfl⟩
  · have hs : ¬ (0 ≤ s ∧ s < 86400) := by
      rw [← Clk.secB_iff]; rcases h with h | h
      · simp [h] at hd
      · simp [h]
    have H := Lib.hid hd; clear h hd
    by_cases d1 : s < 0
    · clear hs
      go_enter Tryd.func16, Tryd.ntmps16
      go_wp2_with fail
      refine (of_any _ _).mono ?_
      rintro e w' ⟨rfl, rfl⟩
      rw [H.out]
      go_wp2
      go_ret2
      exact ⟨rfl, rfl⟩
    · have d2 : 86400 ≤ s := by omega
      have d1' : decide (s < 0) = false := by simp; omega
      clear hs d1
      go_enter Tryd.func16, Tryd.ntmps16
      go_wp2_with fail
      refine (of_any _ _).mono ?_
      rintro e w' ⟨rfl, rfl⟩
      rw [H.out]
      go_wp2
      go_ret2
      exact ⟨rfl, rfl⟩

set_option maxHeartbeats 400000 in
theorem cadd_yes (a k : Int) (w : World) (h : Clk.okB a = true) (hk : Clk.okB (a + k) = true) :
    Calls Tryd.prog 24 #[.int .i64 a, .int .i64 k] w fun e w' => e = .returned (.tuple #[.int .i64 (a + k), .int .i64 0]) ∧ w = w' := by
  obtain ⟨n1, n2⟩ := Clk.okB_iff.1 h
  obtain ⟨k1, k2⟩ := Clk.okB_iff.1 hk
  have H := Lib.hid h; clear h hk
  have b1 : decide (k < 86400 - a) = false := by simp; omega
  have b2 : decide (315537983999 - a < k) = false := by simp; omega
  go_enter Tryd.func24, Tryd.ntmps24
  go_wp2_with fail
  refine (cright_any _ _).mono ?_
  rintro e w' ⟨rfl, rfl⟩
  rw [H.out]
  go_wp2
  go_ret2
  exact ⟨rfl, rfl⟩
set_option maxHeartbeats 400000 in
theorem cadd_no (a k : Int) (w : World) (h : Clk.okB a = false ∨ Clk.okB (a + k) = false) :
    Calls Tryd.prog 24 #[.int .i64 a, .int .i64 k] w fun e w' => e = .returned (.tuple #[.int .i64 0, .int .i64 2]) ∧ w = w' := by
  rcases hn : Clk.okB a
  · have H := Lib.hid hn; clear hn h
    go_enter Tryd.func24, Tryd.ntmps24
    go_wp2_with fail
    refine (cright_any _ _).mono ?_
    rintro e w' ⟨rfl, rfl⟩
    rw [H.out]
    go_wp2
    go_ret2
    exact ⟨rfl, rfl⟩
  · obtain ⟨n1, n2⟩ := Clk.okB_iff.1 hn
    have hk : ¬ (86400 ≤ a + k ∧ a + k ≤ 315537983999) := by
      rw [← Clk.okB_iff]; rcases h with h | h
      · simp [h] at hn
      · simp [h]
    have H := Lib.hid hn; clear hn h
    by_cases b1 : k < 86400 - a
    · clear hk
      go_enter Tryd.func24, Tryd.ntmps24
      go_wp2_with fail
      refine (cright_any _ _).mono ?_
      rintro e w' ⟨rfl, rfl⟩
      rw [H.out]
      go_wp2
      go_ret2
      exact ⟨rfl, rfl⟩
    · have b2 : 315537983999 - a < k := by omega
      have b1' : decide (k < 86400 - a) = false := by simp; omega
      clear hk b1
      go_enter Tryd.func24, Tryd.ntmps24
      go_wp2_with fail
      refine (cright_any _ _).mono ?_
      rintro e w' ⟨rfl, rfl⟩
      rw [H.out]
      go_wp2
      go_ret2
      exact ⟨rfl, rfl⟩
end Go.Proofs.YtemnpnjobjeliaaDoor
