/- What the reference's Seconds returns. -/
import Derived.Test.YtleeklcpbflfhaaGreatDoorZRefNum
import Derived.Test.YtleeklcpbflfhaaGreatDoorZW
import Derived.Test.YtleeklcpbflfhaaGreatDoorZC
import Derived.Deep.RegionHeld3
import Derived.IntWalk
namespace Go.Proofs.YtleeklcpbflfhaaGreatDoor
open Go.RowKit

theorem numb2 {n : Int} (n1 : n ≤ 99) : Txt.numb n.toNat 2 = Txt.dig n.toNat 2 := Txt.numb_dig 1 _ (by omega)
theorem numb4 {n : Int} (n1 : n ≤ 9999) : Txt.numb n.toNat 4 = Txt.dig n.toNat 4 := Txt.numb_dig 3 _ (by omega)
theorem secTxt_numb (a : Int) (h : Cal.dayB (a / 86400) = true) :
    Clk.secTxt a = Txt.numb (Cal.yr (a / 86400)).toNat 4 ++ Txt.numb (Cal.mon (a / 86400)).toNat 2 ++ Txt.numb (Cal.dom (a / 86400)).toNat 2 ++ [84] ++ Txt.numb (a % 86400 / 3600).toNat 2 ++ Txt.numb (a % 3600 / 60).toNat 2 ++ Txt.numb (a % 60).toNat 2 := by
  obtain ⟨y0, y1, m0, m1, d0, d1⟩ := Clk.date_bd h
  obtain ⟨h0, h1, i0, i1, s0, s1⟩ := time_bd a
  rw [numb4 y1, numb2 (by omega), numb2 (by omega), numb2 (by omega), numb2 (by omega), numb2 (by omega), Clk.secTxt, Clk.dateTxt, Clk.timeTxt]
  rw [show Clk.num8 (Cal.yr (a / 86400)) (Cal.mon (a / 86400)) (Cal.dom (a / 86400)) = 10000 * (Cal.yr (a / 86400)).toNat + 100 * (Cal.mon (a / 86400)).toNat + (Cal.dom (a / 86400)).toNat by unfold Clk.num8; omega]
  rw [show Clk.num8 (a % 86400 / 3600) (a % 3600 / 60) (a % 60) = 10000 * (a % 86400 / 3600).toNat + 100 * (a % 3600 / 60).toNat + (a % 60).toNat by unfold Clk.num8; omega]
  rw [Txt.dig_eight _ _ _ (by omega) (by omega), Txt.dig_six _ _ _ (by omega) (by omega)]
  simp only [List.append_assoc]
set_option maxRecDepth 8000 in
set_option maxHeartbeats 4000000 in
theorem seconds_any (a : Int) (w : World) (h : Clk.okB a = true) :
    Calls Tryz.prog 57 #[.int .i64 a] w fun e w' => e = .returned (.string ⟨(Clk.secTxt a).toArray⟩) ∧ Gr w w' := by
  have hb := Clk.okB_iff.1 h
  have hd := Clk.okB_day h
  obtain ⟨y0, y1, m0, m1, d0, d1⟩ := Clk.date_bd hd
  obtain ⟨h0, h1, i0, i1, s0, s1⟩ := time_bd a
  have hx := secTxt_numb a hd
  have HX := Lib.hid hx
  have HD := Lib.hid hd
  have ly : (Txt.numb (Cal.yr (a / 86400)).toNat 4).length = 4 := by rw [numb4 y1, Txt.dig_length]
  have lm : (Txt.numb (Cal.mon (a / 86400)).toNat 2).length = 2 := by rw [numb2 (by omega), Txt.dig_length]
  have ld : (Txt.numb (Cal.dom (a / 86400)).toNat 2).length = 2 := by rw [numb2 (by omega), Txt.dig_length]
  have lh : (Txt.numb (a % 86400 / 3600).toNat 2).length = 2 := by rw [numb2 (by omega), Txt.dig_length]
  have li : (Txt.numb (a % 3600 / 60).toNat 2).length = 2 := by rw [numb2 (by omega), Txt.dig_length]
  have ls : (Txt.numb (a % 60).toNat 2).length = 2 := by rw [numb2 (by omega), Txt.dig_length]
  have n0 : 0 ≤ a % 86400 := by omega
  have q1 : (a % 86400).tdiv 3600 = a % 86400 / 3600 := Int.tdiv_eq_ediv_of_nonneg n0
  have q2 : (a % 86400).tdiv 60 = a % 86400 / 60 := Int.tdiv_eq_ediv_of_nonneg n0
  have q3 : (a % 86400 / 60).tmod 60 = a % 3600 / 60 := by rw [Int.tmod_eq_emod_of_nonneg (by omega)]; omega
  have q4 : (a % 86400).tmod 60 = a % 60 := by rw [Int.tmod_eq_emod_of_nonneg n0]; omega
  have q5 : a % 86400 / 60 % 60 = a % 3600 / 60 := by omega
  have v1 : IntKind.i64.wrap (a % 86400 / 3600) = a % 86400 / 3600 := IntWalk.i64_in _ (by omega)
  have v2 : IntKind.i64.wrap (a % 86400 / 60) = a % 86400 / 60 := IntWalk.i64_in _ (by omega)
  have v3 : IntKind.i64.wrap (a % 3600 / 60) = a % 3600 / 60 := IntWalk.i64_in _ (by omega)
  have v4 : IntKind.i64.wrap (a % 60) = a % 60 := IntWalk.i64_in _ (by omega)
  clear h hd hx
  go_enter Tryz.func57, Tryz.ntmps57
  go_wp2_with fail
  refine (refdate0_yes _ _ HD.out).mono ?_
  rintro e w1 ⟨rfl, hb1⟩
  go_wp2_with fail
  obtain ⟨c0, c1, c2⟩ := box_now w1 (.int .i64 (Cal.yr (a / 86400))) (.int .i64 (Cal.mon (a / 86400))) (.int .i64 (Cal.dom (a / 86400))) 123
  have g := hb1.alloc #[.int .i64 (Cal.yr (a / 86400)), .int .i64 (Cal.mon (a / 86400)), .int .i64 (Cal.dom (a / 86400))] 123
  have z : w1.heap.size < (w1.alloc (.cells #[.int .i64 (Cal.yr (a / 86400)), .int .i64 (Cal.mon (a / 86400)), .int .i64 (Cal.dom (a / 86400))] 123)).heap.size := by simp
  generalize w1.alloc (.cells #[.int .i64 (Cal.yr (a / 86400)), .int .i64 (Cal.mon (a / 86400)), .int .i64 (Cal.dom (a / 86400))] 123) = w2 at *
  clear hb1
  have g := g.drew
  have z : w1.heap.size < w2.drew.heap.size := z
  go_region_held3 (fun w' => w'.cell? ⟨w1.heap.size, 0, none⟩ = some (.int .i64 (Cal.yr (a / 86400))) ∧ w'.cell? ⟨w1.heap.size, 1, none⟩ = some (.int .i64 (Cal.mon (a / 86400))) ∧ w'.cell? ⟨w1.heap.size, 2, none⟩ = some (.int .i64 (Cal.dom (a / 86400))))
    (exact ⟨c0, c1, c2⟩)
    (first | (go_at_call 90; refine (number_any _ _ _ (by omega) (by omega) (by omega) (by omega)).mono ?_; rintro e w3 ⟨rfl, hb3⟩; have c0 := hb3.keeps (by exact z) (by exact c0); have c1 := hb3.keeps (by exact z) (by exact c1); have c2 := hb3.keeps (by exact z) (by exact c2); have z := Nat.lt_of_lt_of_le z hb3.lt; have g := g.trans hb3; clear hb3))
  go_wp2
  go_ret
  refine ⟨mkstr ?_, g⟩
  rw [HX.out, ← cat, ← cat, ← cat, ← cat, ← cat, ← cat]
end Go.Proofs.YtleeklcpbflfhaaGreatDoor
