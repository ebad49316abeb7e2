/- The walk of ClockTexts. -/
import Derived.Test.YtemnpnjobjeliaaDoorAwClk
import Derived.Test.YtemnpnjobjeliaaDoorRefSec
import Derived.Test.YtemnpnjobjeliaaDoorClkTxt
namespace Go.Proofs.YtemnpnjobjeliaaDoor
open Go.RowKit

set_option maxRecDepth 8000 in
set_option maxHeartbeats 2000000 in
theorem clocktexts_no (a : Int) (w : World) (ht : Tab w) (h : Clk.okB a = false) :
    Calls Tryd.prog 5 #[.int .i64 a] w fun e w' => e = .returned (.bool true) ∧ Gr w w' := by
  have H := Lib.hid h; clear h
  go_enter Tryd.func5, Tryd.ntmps5
  go_wp2_with fail
  refine (awake_any _ ht).mono ?_
  rintro e w1 ⟨rfl, hb⟩
  go_wp2_with fail
  refine (format_no _ _ H.out).mono ?_
  rintro e w2 ⟨rfl, hb2⟩
  go_wp2_with fail
  refine (cday_no _ _ H.out).mono ?_
  rintro e w' ⟨rfl, rfl⟩
  go_wp2_with fail
  refine (formatDate_no _ _ rfl).mono ?_
  rintro e w3 ⟨rfl, hb3⟩
  go_wp2_with fail
  refine (rright_any _ _).mono ?_
  rintro e w' ⟨rfl, rfl⟩
  rw [H.out]
  go_wp2
  go_ret
  exact ⟨rfl, (hb.trans hb2).trans hb3⟩
theorem sec_ext (a : Int) : ByteArray.extract ⟨(Clk.secTxt a).toArray⟩ 0 8 = ⟨(Clk.dateTxt (a / 86400)).toArray⟩ := by
  rw [Lib.extract_eq]
  congr 2
theorem parse_txt (l : List UInt8) (w : World) (h : Clk.parB l = true) :
    Calls Tryd.prog 20 #[.string ⟨l.toArray⟩] w fun e w' => e = .returned (.tuple #[.int .i64 (Clk.parV l), .int .i64 0]) ∧ Gr w w' := parse_yes ⟨l.toArray⟩ w h
theorem parsed_txt (l : List UInt8) (w : World) (h : Clk.dayB l = true) :
    Calls Tryd.prog 21 #[.string ⟨l.toArray⟩] w fun e w' => e = .returned (.tuple #[.int .i64 (Cal.num (Clk.vY l) (Clk.vM l) (Clk.vD l)), .int .i64 0]) ∧ Gr w w' := parsed_yes ⟨l.toArray⟩ w h
set_option maxRecDepth 8000 in
set_option maxHeartbeats 2000000 in
theorem clocktexts_yes (a : Int) (w : World) (ht : Tab w) (h : Clk.okB a = true) :
    Calls Tryd.prog 5 #[.int .i64 a] w fun e w' => e = .returned (.bool true) ∧ Gr w w' := by
  have hb := Clk.okB_iff.1 h
  have HD := Lib.hid (Clk.okB_day h)
  obtain ⟨hp, hv⟩ := Clk.back_sec h
  obtain ⟨hq, hn⟩ := Clk.back_day (Clk.okB_day h)
  have HP := Lib.hid hp
  have HV := Lib.hid hv
  have HQ := Lib.hid hq
  have HN := Lib.hid hn
  have sl := Clk.sec_length a
  have dl := Clk.dateTxt_length (a / 86400)
  have ex := sec_ext a
  have H := Lib.hid h
  clear hp hv hq hn h
  go_enter Tryd.func5, Tryd.ntmps5
  go_wp2_with fail
  refine (awake_any _ ht).mono ?_
  rintro e w1 ⟨rfl, hb1⟩
  have t1 := ht.keep hb1
  go_wp2_with fail
  refine (format_yes _ _ t1 H.out).mono ?_
  rintro e w2 ⟨rfl, hb2⟩
  have t2 := t1.keep hb2
  go_wp2_with fail
  refine (cday_yes _ _ H.out).mono ?_
  rintro e w' ⟨rfl, rfl⟩
  go_wp2_with fail
  refine (formatDate_yes _ _ t2 HD.out).mono ?_
  rintro e w3 ⟨rfl, hb3⟩
  go_wp2_with fail
  refine (rright_any _ _).mono ?_
  rintro e w' ⟨rfl, rfl⟩
  rw [H.out]
  go_wp2_with fail
  refine (parse_txt _ _ HP.out).mono ?_
  rintro e w4 ⟨rfl, hb4⟩
  rw [HV.out]
  go_wp2_with fail
  refine (parsed_txt _ _ HQ.out).mono ?_
  rintro e w5 ⟨rfl, hb5⟩
  rw [HN.out]
  go_wp2_with fail
  refine (seconds_any _ _ H.out).mono ?_
  rintro e w6 ⟨rfl, hb6⟩
  go_wp2
  go_ret
  exact ⟨rfl, ((((hb1.trans hb2).trans hb3).trans hb4).trans hb5).trans hb6⟩
theorem clocktexts_any (a : Int) (w : World) (ht : Tab w) :
    Calls Tryd.prog 5 #[.int .i64 a] w fun e w' => e = .returned (.bool true) ∧ Gr w w' := by
  rcases h : Clk.okB a
  · exact clocktexts_no a w ht h
  · exact clocktexts_yes a w ht h
end Go.Proofs.YtemnpnjobjeliaaDoor
