/- The walk of ClockParses. -/
import Derived.Test.YtemnpnjobjeliaaDoorWClkTexts
namespace Go.Proofs.YtemnpnjobjeliaaDoor
open Go.RowKit

set_option maxRecDepth 8000 in
set_option maxHeartbeats 2000000 in
theorem clockparses_no (s : ByteArray) (w : World) (ht : Tab w) (hp : Clk.parB s.data.toList = false) (hq : Clk.dayB s.data.toList = false) :
    Calls Tryd.prog 6 #[.string s] w fun e w' => e = .returned (.bool true) ∧ Gr w w' := by
  have HP := Lib.hid hp
  have HQ := Lib.hid hq
  clear hp hq
  go_enter Tryd.func6, Tryd.ntmps6
  go_wp2_with fail
  refine (awake_any _ ht).mono ?_
  rintro e w1 ⟨rfl, hb1⟩
  go_wp2_with fail
  refine (parse_no _ _ HP.out).mono ?_
  rintro e w2 ⟨rfl, hb2⟩
  go_wp2_with fail
  refine (parsed_no _ _ HQ.out).mono ?_
  rintro e w3 ⟨rfl, hb3⟩
  go_wp2
  go_ret
  exact ⟨rfl, (hb1.trans hb2).trans hb3⟩
set_option maxRecDepth 8000 in
set_option maxHeartbeats 2000000 in
theorem clockparses_sec (s : ByteArray) (w : World) (ht : Tab w) (hp : Clk.parB s.data.toList = true) (hq : Clk.dayB s.data.toList = false) :
    Calls Tryd.prog 6 #[.string s] w fun e w' => e = .returned (.bool true) ∧ Gr w w' := by
  obtain ⟨ho, hx⟩ := Clk.read_sec hp
  have hy : (⟨(Clk.secTxt (Clk.parV s.data.toList)).toArray⟩ : ByteArray) = s := by rw [hx, Lib.mk_data]
  have HO := Lib.hid ho
  have HY := Lib.hid hy
  have HP := Lib.hid hp
  have HQ := Lib.hid hq
  clear hp hq ho hx hy
  go_enter Tryd.func6, Tryd.ntmps6
  go_wp2_with fail
  refine (awake_any _ ht).mono ?_
  rintro e w1 ⟨rfl, hb1⟩
  go_wp2_with fail
  refine (parse_yes _ _ HP.out).mono ?_
  rintro e w2 ⟨rfl, hb2⟩
  generalize Clk.parV s.data.toList = n at *
  go_wp2_with fail
  refine (parsed_no _ _ HQ.out).mono ?_
  rintro e w3 ⟨rfl, hb3⟩
  go_wp2_with fail
  refine (rright_any _ _).mono ?_
  rintro e w' ⟨rfl, rfl⟩
  rw [HO.out]
  go_wp2_with fail
  refine (seconds_any _ _ HO.out).mono ?_
  rintro e w4 ⟨rfl, hb4⟩
  rw [HY.out]
  go_wp2
  go_ret
  exact ⟨rfl, ((hb1.trans hb2).trans hb3).trans hb4⟩
set_option maxRecDepth 8000 in
set_option maxHeartbeats 2000000 in
theorem clockparses_day (s : ByteArray) (w : World) (ht : Tab w) (hp : Clk.parB s.data.toList = false) (hq : Clk.dayB s.data.toList = true) :
    Calls Tryd.prog 6 #[.string s] w fun e w' => e = .returned (.bool true) ∧ Gr w w' := by
  obtain ⟨hd, hx⟩ := Clk.read_day hq
  obtain ⟨n1, n2⟩ := Cal.dayB_iff.1 hd
  have ho : Clk.okB (86400 * Cal.num (Clk.vY s.data.toList) (Clk.vM s.data.toList) (Clk.vD s.data.toList)) = true := Clk.okB_iff.2 (by omega)
  have ex : ByteArray.extract ⟨(Clk.secTxt (86400 * Cal.num (Clk.vY s.data.toList) (Clk.vM s.data.toList) (Clk.vD s.data.toList))).toArray⟩ 0 8 = s := by
    rw [sec_ext, Int.mul_ediv_cancel_left _ (by decide), hx, Lib.mk_data]
  have sl := Clk.sec_length (86400 * Cal.num (Clk.vY s.data.toList) (Clk.vM s.data.toList) (Clk.vD s.data.toList))
  have HO := Lib.hid ho
  have HD := Lib.hid hd
  have HP := Lib.hid hp
  have HQ := Lib.hid hq
  clear hp hq ho hx hd
  go_enter Tryd.func6, Tryd.ntmps6
  go_wp2_with fail
  refine (awake_any _ ht).mono ?_
  rintro e w1 ⟨rfl, hb1⟩
  go_wp2_with fail
  refine (parse_no _ _ HP.out).mono ?_
  rintro e w2 ⟨rfl, hb2⟩
  go_wp2_with fail
  refine (parsed_yes _ _ HQ.out).mono ?_
  rintro e w3 ⟨rfl, hb3⟩
  generalize Cal.num (Clk.vY s.data.toList) (Clk.vM s.data.toList) (Clk.vD s.data.toList) = n at *
  go_wp2_with fail
  refine (in_any _ _).mono ?_
  rintro e w' ⟨rfl, rfl⟩
  rw [HD.out]
  go_wp2_with fail
  refine (seconds_any _ _ HO.out).mono ?_
  rintro e w4 ⟨rfl, hb4⟩
  go_wp2
  go_ret
  exact ⟨rfl, ((hb1.trans hb2).trans hb3).trans hb4⟩
theorem clockparses_any (s : ByteArray) (w : World) (ht : Tab w) :
    Calls Tryd.prog 6 #[.string s] w fun e w' => e = .returned (.bool true) ∧ Gr w w' := by
  rcases hp : Clk.parB s.data.toList
  · rcases hq : Clk.dayB s.data.toList
    · exact clockparses_no s w ht hp hq
    · exact clockparses_day s w ht hp hq
  · refine clockparses_sec s w ht hp ?_
    simp only [Clk.parB, Clk.txtB, Bool.and_eq_true, decide_eq_true_eq] at hp
    rw [Clk.dayB, hp.1.1.1.2]
    simp
end Go.Proofs.YtemnpnjobjeliaaDoor
