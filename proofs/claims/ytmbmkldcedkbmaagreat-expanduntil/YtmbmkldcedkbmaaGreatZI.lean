/- The texts RcAgr0, VaRight, RcEnd, one behind the other. -/
import Derived.Test.YtmbmkldcedkbmaaGreatZRcForm
import Derived.Test.YtmbmkldcedkbmaaGreatZC
import Derived.Test.YtmbmkldcedkbmaaGreatZB
namespace Go.Proofs.YtmbmkldcedkbmaaGreat
open Go.RowKit

namespace Rm
theorem nz8 (r : Ru) : nz r 8 = (if r.sec.isEmpty then 0 else 1) + (if r.min.isEmpty then 0 else 1) + (if r.hour.isEmpty then 0 else 1) + (if r.mday.isEmpty then 0 else 1) + (if r.yday.isEmpty then 0 else 1) + (if r.week.isEmpty then 0 else 1) + (if r.month.isEmpty then 0 else 1) + (if r.pos.isEmpty then 0 else 1) := by
  simp only [nz, Ru.ls, Nat.zero_add]
def emp8 (r : Ru) : Bool := r.sec.isEmpty && r.min.isEmpty && r.hour.isEmpty && r.day.isEmpty && r.mday.isEmpty && r.yday.isEmpty && r.week.isEmpty && r.month.isEmpty
theorem lsN_pos {r : Ru} (h : r.pos.isEmpty = false) : 1 < lsN r ↔ emp8 r = false := by
  unfold lsN emp8
  rw [nz8, h]
  cases r.sec.isEmpty <;> cases r.min.isEmpty <;> cases r.hour.isEmpty <;> cases r.day.isEmpty <;> cases r.mday.isEmpty <;> cases r.yday.isEmpty <;> cases r.week.isEmpty <;> cases r.month.isEmpty <;> simp
theorem fmX_eq (r : Ru) : fmX r = ((r.freq == 4 || (r.yday.isEmpty && r.week.isEmpty)) && (r.freq != 2 || r.mday.isEmpty) && (r.pos.isEmpty || !emp8 r) && (!(r.day.any (fun p => p.1 != 0)) || r.freq == 3 || (r.freq == 4 && r.week.isEmpty))) := by
  unfold fmX emp8
  have : r.day.all (fun p => p.1 == 0) = !(r.day.any (fun p => p.1 != 0)) := by
    rw [List.all_eq_not_any_not]
    rfl
  rw [this]
theorem emp_n {l : List Int} {n : Nat} (h : l.length = n) : l.isEmpty = decide (n = 0) := by
  cases l with
  | nil => subst h; rfl
  | cons a t => subst h; simp
end Rm
end Go.Proofs.YtmbmkldcedkbmaaGreat
namespace Go.Proofs.YtmbmkldcedkbmaaGreat
open Go.RowKit

theorem emq_t {z : ByteArray} (h : z.size = 0) : z.data.toList.isEmpty = true := by
  have : z.data.toList = [] := List.eq_nil_of_length_eq_zero (by rw [← Lib.size_eq]; exact h)
  rw [this]; rfl
theorem emq_f {z : ByteArray} (h : z.size ≠ 0) : z.data.toList.isEmpty = false := by
  rcases e : z.data.toList with _ | ⟨b, l⟩
  · rw [Lib.size_eq, e] at h; exact absurd rfl h
  · rfl
set_option maxRecDepth 8000 in
set_option maxHeartbeats 2000000 in
theorem rt_any (k a : Int) (z : ByteArray) (w : World) :
    Calls Tryz.prog 94 #[.agg #[.int .i64 k, .int .i64 a, .string z]] w fun e w' => e = .returned (.bool (Va.rt k a z.data.toList)) ∧ Gr w w' := by
  have cR := fun w => cright_any a w
  have cN := fun w => zname_any z w
  rcases ho : Clk.okB a
  · rw [Va.rt_no ho]
    rw [ho] at cR
    clear cN ho
    go_enter Tryz.func94, Tryz.ntmps94
    go_wp2_with (first | (go_at_call 34; refine (cR _).mono ?_; rintro e w' ⟨rfl, rfl⟩))
    go_ret
    exact ⟨rfl, (Gr.refl _).alloc _ _⟩
  have hab := Clk.okB_iff.1 ho
  have cS := fun w => csec_yes a w ho
  rw [ho] at cR
  by_cases k0 : k = 0
  · subst k0
    rw [Va.rt0 ho]
    by_cases z0 : z.size = 0
    · rw [emq_t z0]
      have ez := emp_t z z0
      by_cases ha : a % 86400 = 0
      · rw [decide_eq_true ha]
        have b1 : (a % 86400 == 0) = true := by rw [beq_iff_eq]; exact ha
        clear cN ho
        go_enter Tryz.func94, Tryz.ntmps94
        go_wp2_with (first | (go_at_call 34; refine (cR _).mono ?_; rintro e w' ⟨rfl, rfl⟩) | (go_at_call 102; refine (cS _).mono ?_; rintro e w' ⟨rfl, rfl⟩))
        go_ret
        exact ⟨rfl, (Gr.refl _).alloc _ _⟩
      · rw [decide_eq_false ha]
        have b1 : (a % 86400 == 0) = false := by rw [beq_eq_false_iff_ne]; exact ha
        clear cN ho
        go_enter Tryz.func94, Tryz.ntmps94
        go_wp2_with (first | (go_at_call 34; refine (cR _).mono ?_; rintro e w' ⟨rfl, rfl⟩) | (go_at_call 102; refine (cS _).mono ?_; rintro e w' ⟨rfl, rfl⟩))
        go_ret
        exact ⟨rfl, (Gr.refl _).alloc _ _⟩
    · rw [emq_f z0]
      have ez := emp_f z z0
      clear cN ho cS
      go_enter Tryz.func94, Tryz.ntmps94
      go_wp2_with (first | (go_at_call 34; refine (cR _).mono ?_; rintro e w' ⟨rfl, rfl⟩))
      go_ret
      exact ⟨rfl, (Gr.refl _).alloc _ _⟩
  by_cases k1 : k = 1
  · subst k1
    rw [Va.rt1 ho]
    by_cases z0 : z.size = 0
    · rw [emq_t z0]
      have ez := emp_t z z0
      clear cN ho cS
      go_enter Tryz.func94, Tryz.ntmps94
      go_wp2_with (first | (go_at_call 34; refine (cR _).mono ?_; rintro e w' ⟨rfl, rfl⟩))
      go_ret
      exact ⟨rfl, (Gr.refl _).alloc _ _⟩
    · rw [emq_f z0]
      have ez := emp_f z z0
      clear cN ho cS
      go_enter Tryz.func94, Tryz.ntmps94
      go_wp2_with (first | (go_at_call 34; refine (cR _).mono ?_; rintro e w' ⟨rfl, rfl⟩))
      go_ret
      exact ⟨rfl, (Gr.refl _).alloc _ _⟩
  by_cases k2 : k = 2
  · subst k2
    rw [Va.rt2 ho]
    by_cases z0 : z.size = 0
    · rw [emq_t z0]
      have ez := emp_t z z0
      clear cN ho cS
      go_enter Tryz.func94, Tryz.ntmps94
      go_wp2_with (first | (go_at_call 34; refine (cR _).mono ?_; rintro e w' ⟨rfl, rfl⟩))
      go_ret
      exact ⟨rfl, (Gr.refl _).alloc _ _⟩
    · rw [emq_f z0]
      have ez := emp_f z z0
      clear cN ho cS
      go_enter Tryz.func94, Tryz.ntmps94
      go_wp2_with (first | (go_at_call 34; refine (cR _).mono ?_; rintro e w' ⟨rfl, rfl⟩))
      go_ret
      exact ⟨rfl, (Gr.refl _).alloc _ _⟩
  by_cases k3 : k = 3
  · subst k3
    rw [Va.rt3 ho]
    clear ho cS
    go_enter Tryz.func94, Tryz.ntmps94
    go_wp2_with (first | (go_at_call 34; refine (cR _).mono ?_; rintro e w' ⟨rfl, rfl⟩) | (go_at_call 121; refine (cN _).mono ?_; rintro e w' ⟨rfl, rfl⟩))
    go_ret
    exact ⟨rfl, (Gr.refl _).alloc _ _⟩
  · rw [Va.rt_else k0 k1 k2 k3]
    have b0 : (k == 0) = false := by rw [beq_eq_false_iff_ne]; exact k0
    have b1 : (k == 1) = false := by rw [beq_eq_false_iff_ne]; exact k1
    have b2 : (k == 2) = false := by rw [beq_eq_false_iff_ne]; exact k2
    have b3 : (k == 3) = false := by rw [beq_eq_false_iff_ne]; exact k3
    clear cN ho cS
    go_enter Tryz.func94, Tryz.ntmps94
    go_wp2_with (first | (go_at_call 34; refine (cR _).mono ?_; rintro e w' ⟨rfl, rfl⟩))
    go_ret
    exact ⟨rfl, (Gr.refl _).alloc _ _⟩
set_option maxRecDepth 8000 in
set_option maxHeartbeats 2000000 in
theorem rrt_any (k a : Int) (z : ByteArray) (w : World) (hm : z.size ≤ 9223372036854775807) :
    Calls Tryz.prog 24 #[.agg #[.int .i64 k, .int .i64 a, .string z]] w fun e w' => e = .returned (.bool (Va.rt k a z.data.toList)) ∧ Gr w w' := by
  have cR := fun w => rright_any a w
  have cN := fun w => rzname_any z w hm
  rcases ho : Clk.okB a
  · rw [Va.rt_no ho]
    rw [ho] at cR
    clear cN ho
    go_enter Tryz.func24, Tryz.ntmps24
    go_wp2_with (first | (go_at_call 11; refine (cR _).mono ?_; rintro e w' ⟨rfl, rfl⟩))
    go_ret
    exact ⟨rfl, (Gr.refl _).alloc _ _⟩
  have hab := Clk.okB_iff.1 ho
  rw [ho] at cR
  by_cases k0 : k = 0
  · subst k0
    rw [Va.rt0 ho]
    by_cases z0 : z.size = 0
    · rw [emq_t z0]
      have ez := emp_t z z0
      by_cases ha : a % 86400 = 0
      · rw [decide_eq_true ha]
        have b1 : (a % 86400 == 0) = true := by rw [beq_iff_eq]; exact ha
        clear cN ho
        go_enter Tryz.func24, Tryz.ntmps24
        go_wp2_with (first | (go_at_call 11; refine (cR _).mono ?_; rintro e w' ⟨rfl, rfl⟩))
        go_ret
        exact ⟨rfl, (Gr.refl _).alloc _ _⟩
      · rw [decide_eq_false ha]
        have b1 : (a % 86400 == 0) = false := by rw [beq_eq_false_iff_ne]; exact ha
        clear cN ho
        go_enter Tryz.func24, Tryz.ntmps24
        go_wp2_with (first | (go_at_call 11; refine (cR _).mono ?_; rintro e w' ⟨rfl, rfl⟩))
        go_ret
        exact ⟨rfl, (Gr.refl _).alloc _ _⟩
    · rw [emq_f z0]
      have ez := emp_f z z0
      clear cN ho
      go_enter Tryz.func24, Tryz.ntmps24
      go_wp2_with (first | (go_at_call 11; refine (cR _).mono ?_; rintro e w' ⟨rfl, rfl⟩))
      go_ret
      exact ⟨rfl, (Gr.refl _).alloc _ _⟩
  by_cases k1 : k = 1
  · subst k1
    rw [Va.rt1 ho]
    by_cases z0 : z.size = 0
    · rw [emq_t z0]
      have ez := emp_t z z0
      clear cN ho
      go_enter Tryz.func24, Tryz.ntmps24
      go_wp2_with (first | (go_at_call 11; refine (cR _).mono ?_; rintro e w' ⟨rfl, rfl⟩))
      go_ret
      exact ⟨rfl, (Gr.refl _).alloc _ _⟩
    · rw [emq_f z0]
      have ez := emp_f z z0
      clear cN ho
      go_enter Tryz.func24, Tryz.ntmps24
      go_wp2_with (first | (go_at_call 11; refine (cR _).mono ?_; rintro e w' ⟨rfl, rfl⟩))
      go_ret
      exact ⟨rfl, (Gr.refl _).alloc _ _⟩
  by_cases k2 : k = 2
  · subst k2
    rw [Va.rt2 ho]
    by_cases z0 : z.size = 0
    · rw [emq_t z0]
      have ez := emp_t z z0
      clear cN ho
      go_enter Tryz.func24, Tryz.ntmps24
      go_wp2_with (first | (go_at_call 11; refine (cR _).mono ?_; rintro e w' ⟨rfl, rfl⟩))
      go_ret
      exact ⟨rfl, (Gr.refl _).alloc _ _⟩
    · rw [emq_f z0]
      have ez := emp_f z z0
      clear cN ho
      go_enter Tryz.func24, Tryz.ntmps24
      go_wp2_with (first | (go_at_call 11; refine (cR _).mono ?_; rintro e w' ⟨rfl, rfl⟩))
      go_ret
      exact ⟨rfl, (Gr.refl _).alloc _ _⟩
  by_cases k3 : k = 3
  · subst k3
    rw [Va.rt3 ho]
    clear ho
    go_enter Tryz.func24, Tryz.ntmps24
    go_wp2_with (first | (go_at_call 11; refine (cR _).mono ?_; rintro e w' ⟨rfl, rfl⟩) | (go_at_call 45; refine (cN _).mono ?_; rintro e w' ⟨rfl, rfl⟩))
    go_ret
    exact ⟨rfl, (Gr.refl _).alloc _ _⟩
  · rw [Va.rt_else k0 k1 k2 k3]
    have b0 : (k == 0) = false := by rw [beq_eq_false_iff_ne]; exact k0
    have b1 : (k == 1) = false := by rw [beq_eq_false_iff_ne]; exact k1
    have b2 : (k == 2) = false := by rw [beq_eq_false_iff_ne]; exact k2
    have b3 : (k == 3) = false := by rw [beq_eq_false_iff_ne]; exact k3
    clear cN ho
    go_enter Tryz.func24, Tryz.ntmps24
    go_wp2_with (first | (go_at_call 11; refine (cR _).mono ?_; rintro e w' ⟨rfl, rfl⟩))
    go_ret
    exact ⟨rfl, (Gr.refl _).alloc _ _⟩
end Go.Proofs.YtmbmkldcedkbmaaGreat
namespace Go.Proofs.YtmbmkldcedkbmaaGreat
open Go.RowKit

namespace Rm
def endB (r : Ru) : Bool := if r.has = true then decide (r.cnt = 0) && Va.rt r.uk r.ua r.uz && r.uk != 3 else (decide (0 ≤ r.cnt) && decide (r.cnt ≤ 1000)) && (r.uk == 0 && (r.ua == 0 && r.uz.isEmpty))
end Rm
set_option maxRecDepth 100000 in
set_option maxHeartbeats 4000000 in
theorem formedEnd_any (V : Rm.Rv) (w : World) (hz : V.z.data.toList = V.r.uz) :
    Calls Tryz.prog 62 #[.agg V.val] w fun e w' => e = .returned (.bool (Rm.endB V.r)) ∧ Gr w w' := by
  have hbx := RBx.now w V 27
  have hg0 : Gr w (w.alloc (.cells V.val 27)) := (Gr.refl w).allocO _
  have cR := fun w' => rt_any V.r.uk V.r.ua V.z w'
  rw [hz] at cR
  unfold Rm.endB
  obtain ⟨e0, e1, e2, e3, e4, e5, e6, e7, e8, e9, e10, e11, e12, e13, e14, e15, e16⟩ := hbx
  clear e0 e1 e7 e8 e9 e10 e11 e12 e13 e14 e15 e16
  dsimp only [Rm.Rv.val] at *
  generalize V.r.has = hh at *
  rcases hh
  · skip
    have cW := fun w => within_any V.r.cnt 0 1000 w
    have HZ : Hid (V.r.uz.isEmpty = decide (V.z.toList = [])) := Lib.hid (by rw [Lib.toList_data, hz]; cases V.r.uz <;> simp)
    clear cR hz
    generalize (decide (0 ≤ V.r.cnt) && decide (V.r.cnt ≤ 1000)) = q at *
    generalize V.r.cnt = a2 at *
    generalize V.r.uk = a3 at *
    generalize V.r.ua = a4 at *
    rcases q
    · go_enter Tryz.func62, Tryz.ntmps62
      go_upto_region 1 with fail
      go_wp2_with (go_at_call 61; refine (cW _).mono ?_; rintro e w' ⟨rfl, rfl⟩)
      go_ret
      exact ⟨rfl, hg0⟩
    · go_enter Tryz.func62, Tryz.ntmps62
      go_upto_region 1 with fail
      go_wp2_with (go_at_call 61; refine (cW _).mono ?_; rintro e w' ⟨rfl, rfl⟩)
      · rename_i x3 x4 xz
        subst x3 x4
        go_ret
        exact ⟨ret_bool (by rw [HZ.out, decide_eq_true xz]), hg0⟩
      · rename_i x3 x4 xz
        subst x3 x4
        go_ret
        exact ⟨ret_bool (by rw [HZ.out, decide_eq_false xz]), hg0⟩
      · rename_i x3 x4
        subst x3
        go_ret
        exact ⟨ret_bool (by rw [beq_eq_false_iff_ne.2 x4]; rfl), hg0⟩
      · rename_i x3
        go_ret
        exact ⟨ret_bool (by rw [beq_eq_false_iff_ne.2 x3]; rfl), hg0⟩
  · clear hz
    generalize Va.rt V.r.uk V.r.ua V.r.uz = q at *
    generalize V.r.uk = a3 at *
    generalize V.r.ua = a4 at *
    generalize V.r.cnt = a2 at *
    by_cases h2 : a2 = 0
    · subst h2
      rcases q
      · go_enter Tryz.func62, Tryz.ntmps62
        go_upto_region 1 with fail
        go_wp2_with (go_at_call 94; refine (cR _).mono ?_; rintro e w' ⟨rfl, hg⟩)
        go_ret
        exact ⟨rfl, hg0.trans hg⟩
      · go_enter Tryz.func62, Tryz.ntmps62
        go_upto_region 1 with fail
        have d3 := fun w' (h : Gr _ w') => gr_cell h e3
        go_wp2_with (go_at_call 94; refine (cR _).mono ?_; rintro e w' ⟨rfl, hg⟩; have e3 := d3 _ hg)
        go_ret
        exact ⟨rfl, hg0.trans hg⟩
    · have h2n : (a2 == 0) = false := by simpa using h2
      have HF : Hid (decide (a2 = 0) = false) := Lib.hid (by simpa using h2)
      clear cR
      go_enter Tryz.func62, Tryz.ntmps62
      go_upto_region 1 with fail
      go_wp2_with fail
      go_ret
      exact ⟨rfl, hg0⟩
end Go.Proofs.YtmbmkldcedkbmaaGreat
