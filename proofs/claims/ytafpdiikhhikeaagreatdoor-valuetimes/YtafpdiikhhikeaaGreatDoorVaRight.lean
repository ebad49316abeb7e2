/- What value.RightTime and the reference's RightTime return. -/
import Derived.Test.YtafpdiikhhikeaaGreatDoorVw
import Derived.Test.YtafpdiikhhikeaaGreatDoorClk
namespace Go.Proofs.YtafpdiikhhikeaaGreatDoor
open Go.RowKit

theorem emq_t {z : ByteArray} (h : z.size = 0) : z.data.toList.isEmpty = true := by
  have : z.data.toList = [] := List.eq_nil_of_length_eq_zero (by rw [← Lib.size_eq]; exact h)
  rw [this]; rfl
theorem emq_f {z : ByteArray} (h : z.size ≠ 0) : z.data.toList.isEmpty = false := by
  rcases e : z.data.toList with _ | ⟨b, l⟩
  · rw [Lib.size_eq, e] at h; exact absurd rfl h
  · rfl
set_option maxRecDepth 8000 in
set_option maxHeartbeats 2000000 in
theorem rt_any (k a : Int) (z : ByteArray) (w : World) :
    Calls Tryz.prog 7 #[.agg #[.int .i64 k, .int .i64 a, .string z]] w fun e w' => e = .returned (.bool (Va.rt k a z.data.toList)) ∧ Gr w w' := by
  have cR := fun w => cright_any a w
  have cN := fun w => zname_any z w
  rcases ho : Clk.okB a
  · rw [Va.rt_no ho]
    rw [ho] at cR
    clear cN ho
    go_enter Tryz.func7, Tryz.ntmps7
    go_wp2_with (first | (go_at_call 16; refine (cR _).mono ?_; rintro e w' ⟨rfl, rfl⟩))
    go_ret
    exact ⟨rfl, (Gr.refl _).alloc _ _⟩
  have hab := Clk.okB_iff.1 ho
  have cS := fun w => csec_yes a w ho
  rw [ho] at cR
  by_cases k0 : k = 0
  · subst k0
    rw [Va.rt0 ho]
    by_cases z0 : z.size = 0
    · rw [emq_t z0]
      have ez := emp_t z z0
      by_cases ha : a % 86400 = 0
      · rw [decide_eq_true ha]
        have b1 : (a % 86400 == 0) = true := by rw [beq_iff_eq]; exact ha
        clear cN ho
        go_enter Tryz.func7, Tryz.ntmps7
        go_wp2_with (first | (go_at_call 16; refine (cR _).mono ?_; rintro e w' ⟨rfl, rfl⟩) | (go_at_call 17; refine (cS _).mono ?_; rintro e w' ⟨rfl, rfl⟩))
        go_ret
        exact ⟨rfl, (Gr.refl _).alloc _ _⟩
      · rw [decide_eq_false ha]
        have b1 : (a % 86400 == 0) = false := by rw [beq_eq_false_iff_ne]; exact ha
        clear cN ho
        go_enter Tryz.func7, Tryz.ntmps7
        go_wp2_with (first | (go_at_call 16; refine (cR _).mono ?_; rintro e w' ⟨rfl, rfl⟩) | (go_at_call 17; refine (cS _).mono ?_; rintro e w' ⟨rfl, rfl⟩))
        go_ret
        exact ⟨rfl, (Gr.refl _).alloc _ _⟩
    · rw [emq_f z0]
      have ez := emp_f z z0
      clear cN ho cS
      go_enter Tryz.func7, Tryz.ntmps7
      go_wp2_with (first | (go_at_call 16; refine (cR _).mono ?_; rintro e w' ⟨rfl, rfl⟩))
      go_ret
      exact ⟨rfl, (Gr.refl _).alloc _ _⟩
  by_cases k1 : k = 1
  · subst k1
    rw [Va.rt1 ho]
    by_cases z0 : z.size = 0
    · rw [emq_t z0]
      have ez := emp_t z z0
      clear cN ho cS
      go_enter Tryz.func7, Tryz.ntmps7
      go_wp2_with (first | (go_at_call 16; refine (cR _).mono ?_; rintro e w' ⟨rfl, rfl⟩))
      go_ret
      exact ⟨rfl, (Gr.refl _).alloc _ _⟩
    · rw [emq_f z0]
      have ez := emp_f z z0
      clear cN ho cS
      go_enter Tryz.func7, Tryz.ntmps7
      go_wp2_with (first | (go_at_call 16; refine (cR _).mono ?_; rintro e w' ⟨rfl, rfl⟩))
      go_ret
      exact ⟨rfl, (Gr.refl _).alloc _ _⟩
  by_cases k2 : k = 2
  · subst k2
    rw [Va.rt2 ho]
    by_cases z0 : z.size = 0
    · rw [emq_t z0]
      have ez := emp_t z z0
      clear cN ho cS
      go_enter Tryz.func7, Tryz.ntmps7
      go_wp2_with (first | (go_at_call 16; refine (cR _).mono ?_; rintro e w' ⟨rfl, rfl⟩))
      go_ret
      exact ⟨rfl, (Gr.refl _).alloc _ _⟩
    · rw [emq_f z0]
      have ez := emp_f z z0
      clear cN ho cS
      go_enter Tryz.func7, Tryz.ntmps7
      go_wp2_with (first | (go_at_call 16; refine (cR _).mono ?_; rintro e w' ⟨rfl, rfl⟩))
      go_ret
      exact ⟨rfl, (Gr.refl _).alloc _ _⟩
  by_cases k3 : k = 3
  · subst k3
    rw [Va.rt3 ho]
    clear ho cS
    go_enter Tryz.func7, Tryz.ntmps7
    go_wp2_with (first | (go_at_call 16; refine (cR _).mono ?_; rintro e w' ⟨rfl, rfl⟩) | (go_at_call 18; refine (cN _).mono ?_; rintro e w' ⟨rfl, rfl⟩))
    go_ret
    exact ⟨rfl, (Gr.refl _).alloc _ _⟩
  · rw [Va.rt_else k0 k1 k2 k3]
    have b0 : (k == 0) = false := by rw [beq_eq_false_iff_ne]; exact k0
    have b1 : (k == 1) = false := by rw [beq_eq_false_iff_ne]; exact k1
    have b2 : (k == 2) = false := by rw [beq_eq_false_iff_ne]; exact k2
    have b3 : (k == 3) = false := by rw [beq_eq_false_iff_ne]; exact k3
    clear cN ho cS
    go_enter Tryz.func7, Tryz.ntmps7
    go_wp2_with (first | (go_at_call 16; refine (cR _).mono ?_; rintro e w' ⟨rfl, rfl⟩))
    go_ret
    exact ⟨rfl, (Gr.refl _).alloc _ _⟩
set_option maxRecDepth 8000 in
set_option maxHeartbeats 2000000 in
theorem rrt_any (k a : Int) (z : ByteArray) (w : World) (hm : z.size ≤ 9223372036854775807) :
    Calls Tryz.prog 6 #[.agg #[.int .i64 k, .int .i64 a, .string z]] w fun e w' => e = .returned (.bool (Va.rt k a z.data.toList)) ∧ Gr w w' := by
  have cR := fun w => rright_any a w
  have cN := fun w => rzname_any z w hm
  rcases ho : Clk.okB a
  · rw [Va.rt_no ho]
    rw [ho] at cR
    clear cN ho
    go_enter Tryz.func6, Tryz.ntmps6
    go_wp2_with (first | (go_at_call 14; refine (cR _).mono ?_; rintro e w' ⟨rfl, rfl⟩))
    go_ret
    exact ⟨rfl, (Gr.refl _).alloc _ _⟩
  have hab := Clk.okB_iff.1 ho
  rw [ho] at cR
  by_cases k0 : k = 0
  · subst k0
    rw [Va.rt0 ho]
    by_cases z0 : z.size = 0
    · rw [emq_t z0]
      have ez := emp_t z z0
      by_cases ha : a % 86400 = 0
      · rw [decide_eq_true ha]
        have b1 : (a % 86400 == 0) = true := by rw [beq_iff_eq]; exact ha
        clear cN ho
        go_enter Tryz.func6, Tryz.ntmps6
        go_wp2_with (first | (go_at_call 14; refine (cR _).mono ?_; rintro e w' ⟨rfl, rfl⟩))
        go_ret
        exact ⟨rfl, (Gr.refl _).alloc _ _⟩
      · rw [decide_eq_false ha]
        have b1 : (a % 86400 == 0) = false := by rw [beq_eq_false_iff_ne]; exact ha
        clear cN ho
        go_enter Tryz.func6, Tryz.ntmps6
        go_wp2_with (first | (go_at_call 14; refine (cR _).mono ?_; rintro e w' ⟨rfl, rfl⟩))
        go_ret
        exact ⟨rfl, (Gr.refl _).alloc _ _⟩
    · rw [emq_f z0]
      have ez := emp_f z z0
      clear cN ho
      go_enter Tryz.func6, Tryz.ntmps6
      go_wp2_with (first | (go_at_call 14; refine (cR _).mono ?_; rintro e w' ⟨rfl, rfl⟩))
      go_ret
      exact ⟨rfl, (Gr.refl _).alloc _ _⟩
  by_cases k1 : k = 1
  · subst k1
    rw [Va.rt1 ho]
    by_cases z0 : z.size = 0
    · rw [emq_t z0]
      have ez := emp_t z z0
      clear cN ho
      go_enter Tryz.func6, Tryz.ntmps6
      go_wp2_with (first | (go_at_call 14; refine (cR _).mono ?_; rintro e w' ⟨rfl, rfl⟩))
      go_ret
      exact ⟨rfl, (Gr.refl _).alloc _ _⟩
    · rw [emq_f z0]
      have ez := emp_f z z0
      clear cN ho
      go_enter Tryz.func6, Tryz.ntmps6
      go_wp2_with (first | (go_at_call 14; refine (cR _).mono ?_; rintro e w' ⟨rfl, rfl⟩))
      go_ret
      exact ⟨rfl, (Gr.refl _).alloc _ _⟩
  by_cases k2 : k = 2
  · subst k2
    rw [Va.rt2 ho]
    by_cases z0 : z.size = 0
    · rw [emq_t z0]
      have ez := emp_t z z0
      clear cN ho
      go_enter Tryz.func6, Tryz.ntmps6
      go_wp2_with (first | (go_at_call 14; refine (cR _).mono ?_; rintro e w' ⟨rfl, rfl⟩))
      go_ret
      exact ⟨rfl, (Gr.refl _).alloc _ _⟩
    · rw [emq_f z0]
      have ez := emp_f z z0
      clear cN ho
      go_enter Tryz.func6, Tryz.ntmps6
      go_wp2_with (first | (go_at_call 14; refine (cR _).mono ?_; rintro e w' ⟨rfl, rfl⟩))
      go_ret
      exact ⟨rfl, (Gr.refl _).alloc _ _⟩
  by_cases k3 : k = 3
  · subst k3
    rw [Va.rt3 ho]
    clear ho
    go_enter Tryz.func6, Tryz.ntmps6
    go_wp2_with (first | (go_at_call 14; refine (cR _).mono ?_; rintro e w' ⟨rfl, rfl⟩) | (go_at_call 15; refine (cN _).mono ?_; rintro e w' ⟨rfl, rfl⟩))
    go_ret
    exact ⟨rfl, (Gr.refl _).alloc _ _⟩
  · rw [Va.rt_else k0 k1 k2 k3]
    have b0 : (k == 0) = false := by rw [beq_eq_false_iff_ne]; exact k0
    have b1 : (k == 1) = false := by rw [beq_eq_false_iff_ne]; exact k1
    have b2 : (k == 2) = false := by rw [beq_eq_false_iff_ne]; exact k2
    have b3 : (k == 3) = false := by rw [beq_eq_false_iff_ne]; exact k3
    clear cN ho
    go_enter Tryz.func6, Tryz.ntmps6
    go_wp2_with (first | (go_at_call 14; refine (cR _).mono ?_; rintro e w' ⟨rfl, rfl⟩))
    go_ret
    exact ⟨rfl, (Gr.refl _).alloc _ _⟩
end Go.Proofs.YtafpdiikhhikeaaGreatDoor
