/- What the leaf functions of package julian return: beforeYear, yearOf, near, checked, julianLength, copticLength. -/
import Derived.Test.YthfmfbdnafbmdaaFloor
import Derived.Test.YthfmfbdnafbmdaaJulCal
import Derived.Test.YthfmfbdnafbmdaaCopCal
namespace Go.Proofs.Ythfmfbdnafbmdaa
open Go.RowKit

set_option maxHeartbeats 400000 in
theorem jbefore_any (y c : Int) (w : World) (y1 : -40000 ≤ y) (y2 : y ≤ 40000) (c1 : 0 ≤ c) (c2 : c ≤ 1) :
    Calls Try.prog 22 #[.int .i64 y, .int .i64 c] w fun e w' => e = .returned (.int .i64 (((y - 1) * 1461 + c) / 4)) ∧ w = w' := by
  go_enter Try.func22, Try.ntmps22
  go_wp2_with (go_at_call 36; refine (quotient_any _ _ _ (by omega) (by omega) (by omega) (by omega)).mono ?_; rintro e w' ⟨rfl, rfl⟩)
  go_ret
  exact ⟨rfl, rfl⟩
set_option maxHeartbeats 400000 in
theorem jyearOf_any (r c : Int) (w : World) (r1 : -10000000 ≤ r) (r2 : r ≤ 10000000) (c1 : 0 ≤ c) (c2 : c ≤ 1) :
    Calls Try.prog 21 #[.int .i64 r, .int .i64 c] w fun e w' => e = .returned (.int .i64 ((r * 4 + 3 - c) / 1461 + 1)) ∧ w = w' := by
  go_enter Try.func21, Try.ntmps21
  go_wp2_with (go_at_call 36; refine (quotient_any _ _ _ (by omega) (by omega) (by omega) (by omega)).mono ?_; rintro e w' ⟨rfl, rfl⟩)
  go_ret
  exact ⟨ret_int (by omega), rfl⟩
def nearB (y : Int) : Bool := decide (-9999 ≤ y ∧ y ≤ 9999)
theorem nearB_iff {y : Int} : nearB y = true ↔ (-9999 ≤ y ∧ y ≤ 9999) := by unfold nearB; simp
set_option maxHeartbeats 400000 in
theorem near_any (y : Int) (w : World) :
    Calls Try.prog 31 #[.int .i64 y] w fun e w' => e = .returned (.bool (nearB y)) ∧ w = w' := by
  go_enter Try.func31, Try.ntmps31
  go_wp2
  all_goals go_ret
  all_goals refine ⟨ret_bool ?_, rfl⟩
  all_goals rw [Bool.eq_iff_iff, nearB_iff]
  all_goals simp
  all_goals omega
set_option maxHeartbeats 400000 in
theorem checked_no (n : Int) (w : World) (h : Cal.dayB n = false) :
    Calls Try.prog 32 #[.int .i64 n] w fun e w' => e = .returned (.tuple #[.int .i64 0, .int .i64 2]) ∧ w = w' := by
  have H := Lib.hid h; clear h
  go_enter Try.func32, Try.ntmps32
  go_wp2_with (go_at_call 20; refine (of_any _ _).mono ?_; rintro e w' ⟨rfl, rfl⟩; rw [H.out])
  go_ret2
  exact ⟨rfl, rfl⟩
set_option maxHeartbeats 400000 in
theorem checked_yes (n : Int) (w : World) (h : Cal.dayB n = true) :
    Calls Try.prog 32 #[.int .i64 n] w fun e w' => e = .returned (.tuple #[.int .i64 n, .int .i64 0]) ∧ w = w' := by
  have H := Lib.hid h; clear h
  go_enter Try.func32, Try.ntmps32
  go_wp2_with (go_at_call 20; refine (of_any _ _).mono ?_; rintro e w' ⟨rfl, rfl⟩; rw [H.out])
  go_ret2
  exact ⟨rfl, rfl⟩
set_option maxHeartbeats 400000 in
theorem jlength_any (y m : Int) (w : World) :
    Calls Try.prog 23 #[.int .i64 y, .int .i64 m] w fun e w' => e = .returned (.int .i64 (Jul.len y m)) ∧ w = w' := by
  by_cases h : m = 2 ∧ y % 4 = 0
  · obtain ⟨rfl, h4⟩ := h
    have HL := Lib.hid (Jul.jlen2 h4)
    have z : (y.tmod 4 == 0) = true := by simpa [tmod_zero] using h4
    clear h4
    go_enter Try.func23, Try.ntmps23
    go_wp2
    go_ret
    exact ⟨ret_int HL.out.symm, rfl⟩
  · have HL := Lib.hid (Jul.jlen_other h)
    by_cases hm : m = 2
    · subst hm
      have z : (y.tmod 4 == 0) = false := by
        rw [beq_eq_false_iff_ne]; intro k; rw [tmod_zero] at k; exact h ⟨rfl, k⟩
      clear h
      go_enter Try.func23, Try.ntmps23
      go_wp2_with (go_at_call 37; refine (length_any _ _ _).mono ?_; rintro e w' ⟨rfl, rfl⟩)
      go_ret
      exact ⟨ret_int HL.out, rfl⟩
    · have z : (m == 2) = false := by simpa using hm
      clear h
      go_enter Try.func23, Try.ntmps23
      go_wp2_with (go_at_call 37; refine (length_any _ _ _).mono ?_; rintro e w' ⟨rfl, rfl⟩)
      go_ret
      exact ⟨ret_int HL.out, rfl⟩
theorem clen0 {y m : Int} (h : m < 1 ∨ 13 < m) : Cop.len y m = 0 := by unfold Cop.len; rw [if_pos h]
theorem clen30 {y m : Int} (h1 : 1 ≤ m) (h2 : m ≤ 12) : Cop.len y m = 30 := by unfold Cop.len; rw [if_neg (by omega), if_pos h2]
theorem clen6 {y m : Int} (h1 : m = 13) (h2 : y % 4 = 3) : Cop.len y m = 6 := by unfold Cop.len; rw [if_neg (by omega), if_neg (by omega), if_pos h2]
theorem clen5 {y m : Int} (h1 : m = 13) (h2 : y % 4 ≠ 3) : Cop.len y m = 5 := by unfold Cop.len; rw [if_neg (by omega), if_neg (by omega), if_neg h2]
set_option maxHeartbeats 400000 in
theorem clength_any (y m : Int) (w : World) :
    Calls Try.prog 35 #[.int .i64 y, .int .i64 m] w fun e w' => e = .returned (.int .i64 (Cop.len y m)) ∧ w = w' := by
  go_enter Try.func35, Try.ntmps35
  go_wp2_with (go_at_call 47; refine (remainder_any _ _ _ (by omega) (by omega)).mono ?_; rintro e w' ⟨rfl, rfl⟩)
  all_goals go_ret
  all_goals refine ⟨ret_int ?_, rfl⟩
  all_goals try simp only [beq_iff_eq, beq_eq_false_iff_ne, ne_eq] at *
  all_goals first
    | exact (clen0 (by omega)).symm
    | exact (clen30 (by omega) (by omega)).symm
    | exact (clen6 (by omega) (by omega)).symm
    | exact (clen5 (by omega) (by omega)).symm
end Go.Proofs.Ythfmfbdnafbmdaa
