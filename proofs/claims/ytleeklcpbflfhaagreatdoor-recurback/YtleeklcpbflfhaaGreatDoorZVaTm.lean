/- What value.Time and the reference's Time return. -/
import Derived.Test.YtleeklcpbflfhaaGreatDoorZI
import Derived.Test.YtleeklcpbflfhaaGreatDoorZC
import Derived.Test.YtleeklcpbflfhaaGreatDoorZRefSec
import Derived.Test.YtleeklcpbflfhaaGreatDoorZVaDur
namespace Go.Proofs.YtleeklcpbflfhaaGreatDoor
open Go.RowKit

theorem tupT {a : ByteArray} {l : List UInt8} (h : a.data.toList = l) : Ending.returned (.tuple #[.string a, .int .i64 0]) = .returned (.tuple #[.string ⟨l.toArray⟩, .int .i64 0]) := by rw [str_mk h]
theorem sec_ext12 (a : Int) : ByteArray.extract ⟨(Clk.secTxt a).toArray⟩ 0 8 = ⟨(Clk.dateTxt (a / 86400)).toArray⟩ := by
  rw [Lib.extract_eq]
  congr 2
set_option maxRecDepth 8000 in
set_option maxHeartbeats 2000000 in
theorem time_no (k a : Int) (z : ByteArray) (w : World) (h : Va.rt k a z.data.toList = false) :
    Calls Tryz.prog 83 #[.agg #[.int .i64 k, .int .i64 a, .string z]] w fun e w' => e = .returned (.tuple #[.string ⟨#[]⟩, .int .i64 7]) ∧ Gr w w' := by
  have cR := fun w => rt_any k a z w
  rw [h] at cR
  clear h
  go_enter Tryz.func83, Tryz.ntmps83
  go_wp2_with (go_at_call 59; refine (cR _).mono ?_; rintro e w1 ⟨rfl, hb⟩)
  go_ret2
  exact ⟨rfl, ((Gr.refl _).alloc _ _).trans hb⟩
set_option maxRecDepth 8000 in
set_option maxHeartbeats 2000000 in
theorem time_yes (k a : Int) (z : ByteArray) (w : World) (ht : Tab w) (h : Va.rt k a z.data.toList = true) :
    Calls Tryz.prog 83 #[.agg #[.int .i64 k, .int .i64 a, .string z]] w fun e w' => e = .returned (.tuple #[.string ⟨(Va.txt k a).toArray⟩, .int .i64 0]) ∧ Gr w w' := by
  have cR := fun w => rt_any k a z w
  have ho := Va.rt_ok h
  have hk := Va.rt_kind h
  rw [h] at cR
  have cD := fun w => cday_yes a w ho
  have cF := fun (w : World) (ht : Tab w) => formatDate_yes (a / 86400) w ht (Clk.okB_day ho)
  have cS := fun (w : World) (ht : Tab w) => format_yes a w ht ho
  have hl := Clk.sec_length a
  have hT : TG w (w.alloc (.cells #[.int .i64 k, .int .i64 a, .string z] 23)) := (TG.start ht).go ((Gr.refl _).alloc _ _)
  have hb := Gr.refl (w.alloc (.cells #[.int .i64 k, .int .i64 a, .string z] 23))
  clear h ho ht
  by_cases k0 : k = 0
  · have e : Va.txt k a = Clk.dateTxt (a / 86400) := by unfold Va.txt; rw [if_pos k0]
    rw [e]
    clear e hk cS
    subst k0
    go_enter Tryz.func83, Tryz.ntmps83
    go_wp2_with fail
    refine (cR _).mono ?_
    rintro e w1 ⟨rfl, hx⟩
    replace hb := hb.trans hx
    replace hT := hT.go hx
    obtain ⟨c0, c1, c2⟩ := box3 hb
    go_wp2_with fail
    refine (cD _).mono ?_
    rintro e w' ⟨rfl, rfl⟩
    go_wp2_with fail
    refine (cF _ hT.1).mono ?_
    rintro e w2 ⟨rfl, hy⟩
    go_wp2
    go_ret2
    exact ⟨rfl, hT.2.trans hy⟩
  have b0 : (k == 0) = false := by rw [beq_eq_false_iff_ne]; exact k0
  generalize hs : Clk.secTxt a = t at *
  by_cases k2 : k = 2
  · have e : Va.txt k a = t ++ [90] := by unfold Va.txt; rw [if_neg k0, if_pos k2, hs]
    rw [e]
    have b2 : (k == 2) = true := by rw [beq_iff_eq]; exact k2
    clear e hk cF cD hs k2 k0
    go_enter Tryz.func83, Tryz.ntmps83
    go_wp2_with fail
    refine (cR _).mono ?_
    rintro e w1 ⟨rfl, hx⟩
    replace hb := hb.trans hx
    replace hT := hT.go hx
    obtain ⟨c0, c1, c2⟩ := box3 hb
    go_wp2_with fail
    refine (cS _ hT.1).mono ?_
    rintro e w2 ⟨rfl, hy⟩
    replace hb := hb.trans hy
    obtain ⟨c0, c1, c2⟩ := box3 hb
    go_wp2
    go_ret2
    exact ⟨tupT (by simp [ByteArray.data_append]), hT.2.trans hy⟩
  · have e : Va.txt k a = t := by unfold Va.txt; rw [if_neg k0, if_neg k2, hs]
    rw [e]
    have b2 : (k == 2) = false := by rw [beq_eq_false_iff_ne]; exact k2
    clear e hk cF cD hs k2 k0
    go_enter Tryz.func83, Tryz.ntmps83
    go_wp2_with fail
    refine (cR _).mono ?_
    rintro e w1 ⟨rfl, hx⟩
    replace hb := hb.trans hx
    replace hT := hT.go hx
    obtain ⟨c0, c1, c2⟩ := box3 hb
    go_wp2_with fail
    refine (cS _ hT.1).mono ?_
    rintro e w2 ⟨rfl, hy⟩
    replace hb := hb.trans hy
    obtain ⟨c0, c1, c2⟩ := box3 hb
    go_wp2
    go_ret2
    exact ⟨rfl, hT.2.trans hy⟩
set_option maxRecDepth 8000 in
set_option maxHeartbeats 2000000 in
theorem rtime_any (k a : Int) (z : ByteArray) (w : World) (ho : Clk.okB a = true) :
    Calls Tryz.prog 23 #[.agg #[.int .i64 k, .int .i64 a, .string z]] w fun e w' => e = .returned (.string ⟨(Va.txt k a).toArray⟩) ∧ Gr w w' := by
  have cS := fun (w : World) => seconds_any a w ho
  have hl := Clk.sec_length a
  have hx8 := sec_ext12 a
  have hz : (ByteArray.mk (Clk.secTxt a).toArray).size = 15 := by rw [Lib.size_eq]; exact hl
  have hb := Gr.refl (w.alloc (.cells #[.int .i64 k, .int .i64 a, .string z] 23))
  clear ho
  generalize hs : Clk.secTxt a = t at *
  by_cases k0 : k = 0
  · have e : Va.txt k a = Clk.dateTxt (a / 86400) := by unfold Va.txt; rw [if_pos k0]
    rw [e]
    have HX := Lib.hid hx8
    clear e hs hx8
    subst k0
    go_enter Tryz.func23, Tryz.ntmps23
    go_wp2_with fail
    refine (cS _).mono ?_
    rintro e w1 ⟨rfl, hx⟩
    replace hb := hb.trans hx
    obtain ⟨c0, c1, c2⟩ := box3 hb
    go_wp2
    go_ret
    exact ⟨by rw [← HX.out] <;> rfl, ((Gr.refl _).alloc _ _).trans hb⟩
  have b0 : (k == 0) = false := by rw [beq_eq_false_iff_ne]; exact k0
  by_cases k2 : k = 2
  · have e : Va.txt k a = t ++ [90] := by unfold Va.txt; rw [if_neg k0, if_pos k2, hs]
    rw [e]
    have b2 : (k == 2) = true := by rw [beq_iff_eq]; exact k2
    clear e hs k2 k0 hx8
    go_enter Tryz.func23, Tryz.ntmps23
    go_wp2_with fail
    refine (cS _).mono ?_
    rintro e w1 ⟨rfl, hx⟩
    replace hb := hb.trans hx
    obtain ⟨c0, c1, c2⟩ := box3 hb
    go_wp2
    go_ret
    exact ⟨mkstr (str_mk (by simp [ByteArray.data_append])), ((Gr.refl _).alloc _ _).trans hb⟩
  · have e : Va.txt k a = t := by unfold Va.txt; rw [if_neg k0, if_neg k2, hs]
    rw [e]
    have b2 : (k == 2) = false := by rw [beq_eq_false_iff_ne]; exact k2
    clear e hs k2 k0 hx8
    go_enter Tryz.func23, Tryz.ntmps23
    go_wp2_with fail
    refine (cS _).mono ?_
    rintro e w1 ⟨rfl, hx⟩
    replace hb := hb.trans hx
    obtain ⟨c0, c1, c2⟩ := box3 hb
    go_wp2
    go_ret
    exact ⟨rfl, ((Gr.refl _).alloc _ _).trans hb⟩
end Go.Proofs.YtleeklcpbflfhaaGreatDoor
