/- What the leaf functions of package iso return: sinceStart, isWeekday, newYear, first. -/
import Derived.Test.YtcgcdolafooffaaDay
import Derived.Test.YtcgcdolafooffaaIsoCal
namespace Go.Proofs.Ytcgcdolafooffaa.Iso
open Go.RowKit

def stB (s : Int) : Bool := decide (0 ≤ s ∧ s < 7)
theorem stB_iff {s : Int} : stB s = true ↔ (0 ≤ s ∧ s < 7) := by unfold stB; simp
set_option maxHeartbeats 400000 in
theorem isweekday_any (s : Int) (w : World) :
    Calls Try.prog 32 #[.int .i64 s] w fun e w' => e = .returned (.bool (stB s)) ∧ w = w' := by
  go_enter Try.func32, Try.ntmps32
  go_wp2
  all_goals go_ret
  all_goals refine ⟨ret_bool ?_, rfl⟩
  all_goals rw [Bool.eq_iff_iff, stB_iff]
  all_goals simp
  all_goals omega
theorem since_eq (n s : Int) : (n % 7 - s + 7) % 7 = (n - s) % 7 := by omega
set_option maxHeartbeats 400000 in
theorem since_any (n s : Int) (w : World) (s0 : 0 ≤ s) (s1 : s ≤ 6) :
    Calls Try.prog 19 #[.int .i64 n, .int .i64 s] w fun e w' => e = .returned (.int .i64 ((n - s) % 7)) ∧ w = w' := by
  have b1 : 0 ≤ n % 7 := by omega
  have b2 : n % 7 ≤ 6 := by omega
  have HE := Lib.hid (since_eq n s)
  go_enter Try.func19, Try.ntmps19
  go_wp2_with fail
  refine (weekday_any _ _).mono ?_
  rintro e w' ⟨rfl, rfl⟩
  go_wp2
  go_ret
  exact ⟨ret_int HE.out, rfl⟩
theorem new_eq (y : Int) : Cal.num y 1 1 = Cal.dby y + 1 := by unfold Cal.num; rw [Cal.cum_1]; omega
theorem new_ok {y : Int} (h1 : 1 ≤ y) (h2 : y ≤ 9999) : Cal.okB y 1 1 = true := by
  rw [Cal.okB_iff]; have := Cal.dim_lo y (m := 1) (by omega) (by omega); omega
set_option maxHeartbeats 400000 in
theorem newyear_any (y : Int) (w : World) (y0 : 0 ≤ y) (y1 : y ≤ 10000) :
    Calls Try.prog 44 #[.int .i64 y] w fun e w' => e = .returned (.int .i64 (Cal.dby y + 1)) ∧ Gr w w' := by
  by_cases h0 : y = 0
  · subst h0
    go_enter Try.func44, Try.ntmps44
    go_wp2
    go_ret
    exact ⟨ret_int (by decide), Gr.refl _⟩
  · by_cases h1 : y = 10000
    · subst h1
      go_enter Try.func44, Try.ntmps44
      go_wp2
      go_ret
      exact ⟨ret_int (by decide), Gr.refl _⟩
    · have b0 : (y == 0) = false := by simpa using h0
      have b1 : (y == 10000) = false := by simpa using h1
      have HO := Lib.hid (new_ok (y := y) (by omega) (by omega))
      have HE := Lib.hid (new_eq y)
      go_enter Try.func44, Try.ntmps44
      go_wp2_with fail
      refine (day_yes _ _ _ _ HO.out).mono ?_
      rintro e w1 ⟨rfl, hb⟩
      go_wp2
      go_ret
      exact ⟨ret_int HE.out, hb⟩
set_option maxHeartbeats 400000 in
theorem first_any (y s : Int) (w : World) (y0 : 0 ≤ y) (y1 : y ≤ 10000) (s0 : 0 ≤ s) (s1 : s ≤ 6) :
    Calls Try.prog 28 #[.int .i64 y, .int .i64 s] w fun e w' => e = .returned (.int .i64 (w1 y s)) ∧ Gr w w' := by
  have b := Cal.dby_bdw (a := y) (by omega) (by omega)
  have HE : Hid (Cal.dby y + 1 + 3 - (Cal.dby y + 1 + 3 - s) % 7 = w1 y s) := by
    show _ = _
    rw [show Cal.dby y + 1 + 3 = Cal.dby y + 4 by omega]; rfl
  go_enter Try.func28, Try.ntmps28
  go_wp2_with fail
  refine (newyear_any _ _ y0 y1).mono ?_
  rintro e w1 ⟨rfl, hb⟩
  go_wp2_with fail
  refine (since_any _ _ _ s0 s1).mono ?_
  rintro e w' ⟨rfl, rfl⟩
  go_wp2
  go_ret
  exact ⟨ret_int HE.out, hb⟩
end Go.Proofs.Ytcgcdolafooffaa.Iso
