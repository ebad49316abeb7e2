/- The law IsoWeeks returns true. -/
import Derived.Test.YtcgcdolafooffaaRefIso
import Derived.Test.YtcgcdolafooffaaIsoFn
import Derived.Test.YtcgcdolafooffaaAwIso
namespace Go.Proofs.Ytcgcdolafooffaa.Iso
open Go.RowKit

set_option maxRecDepth 8000 in
set_option maxHeartbeats 2000000 in
theorem weeks_n_lo_neg (n s y : Int) (w : World) (hd : Cal.dayB n = false) (hs : stB s = false) (s1 : s < 0) (y1 : y < 0) :
    Calls Try.prog 7 #[.int .i64 n, .int .i64 s, .int .i64 y] w fun e w' => e = .returned (.bool true) ∧ Gr w w' := by
  have HD := Lib.hid hd; have HS := Lib.hid hs
  clear hd hs
  go_enter Try.func7, Try.ntmps7
  go_wp2_with fail
  refine (trystlaw03.awake_any _).mono ?_
  rintro e w1 ⟨rfl, hb1⟩
  go_wp2_with fail
  refine (week_no _ _ _ HD.out).mono ?_
  rintro e w2 ⟨rfl, hb2⟩
  go_wp2_with fail
  refine (first_far _ _ _ (by omega)).mono ?_
  rintro e w' ⟨rfl, rfl⟩
  go_wp2_with fail
  refine (weeks_far _ _ _ (by omega)).mono ?_
  rintro e w' ⟨rfl, rfl⟩
  go_wp2_with (first | (go_at_call 13; refine (in_any _ _).mono ?_; rintro e w' ⟨rfl, rfl⟩; rw [HD.out]))
  go_ret
  exact ⟨rfl, (hb1.trans hb2)⟩

set_option maxRecDepth 8000 in
set_option maxHeartbeats 2000000 in
theorem weeks_n_lo_far (n s y : Int) (w : World) (hd : Cal.dayB n = false) (hs : stB s = false) (s1 : s < 0) (y0 : 0 ≤ y) (y1 : 10000 < y) :
    Calls Try.prog 7 #[.int .i64 n, .int .i64 s, .int .i64 y] w fun e w' => e = .returned (.bool true) ∧ Gr w w' := by
  have HD := Lib.hid hd; have HS := Lib.hid hs
  clear hd hs
  go_enter Try.func7, Try.ntmps7
  go_wp2_with fail
  refine (trystlaw03.awake_any _).mono ?_
  rintro e w1 ⟨rfl, hb1⟩
  go_wp2_with fail
  refine (week_no _ _ _ HD.out).mono ?_
  rintro e w2 ⟨rfl, hb2⟩
  go_wp2_with fail
  refine (first_far _ _ _ (by omega)).mono ?_
  rintro e w' ⟨rfl, rfl⟩
  go_wp2_with fail
  refine (weeks_far _ _ _ (by omega)).mono ?_
  rintro e w' ⟨rfl, rfl⟩
  go_wp2_with (first | (go_at_call 13; refine (in_any _ _).mono ?_; rintro e w' ⟨rfl, rfl⟩; rw [HD.out]))
  go_ret
  exact ⟨rfl, (hb1.trans hb2)⟩

set_option maxRecDepth 8000 in
set_option maxHeartbeats 2000000 in
theorem weeks_n_lo_10000 (n s : Int) (w : World) (hd : Cal.dayB n = false) (hs : stB s = false) (s1 : s < 0) :
    Calls Try.prog 7 #[.int .i64 n, .int .i64 s, .int .i64 10000] w fun e w' => e = .returned (.bool true) ∧ Gr w w' := by
  have HD := Lib.hid hd; have HS := Lib.hid hs
  clear hd hs
  go_enter Try.func7, Try.ntmps7
  go_wp2_with fail
  refine (trystlaw03.awake_any _).mono ?_
  rintro e w1 ⟨rfl, hb1⟩
  go_wp2_with fail
  refine (week_no _ _ _ HD.out).mono ?_
  rintro e w2 ⟨rfl, hb2⟩
  go_wp2_with fail
  refine (first_arg _ _ _ (by omega) (by omega) HS.out).mono ?_
  rintro e w' ⟨rfl, rfl⟩
  go_wp2_with fail
  refine (weeks_far _ _ _ (by omega)).mono ?_
  rintro e w' ⟨rfl, rfl⟩
  go_wp2_with (first | (go_at_call 13; refine (in_any _ _).mono ?_; rintro e w' ⟨rfl, rfl⟩; rw [HD.out]))
  go_ret
  exact ⟨rfl, (hb1.trans hb2)⟩

set_option maxRecDepth 8000 in
set_option maxHeartbeats 2000000 in
theorem weeks_n_lo_in (n s y : Int) (w : World) (hd : Cal.dayB n = false) (hs : stB s = false) (s1 : s < 0) (y0 : 0 ≤ y) (y1 : y ≤ 9999) :
    Calls Try.prog 7 #[.int .i64 n, .int .i64 s, .int .i64 y] w fun e w' => e = .returned (.bool true) ∧ Gr w w' := by
  have HD := Lib.hid hd; have HS := Lib.hid hs
  clear hd hs
  go_enter Try.func7, Try.ntmps7
  go_wp2_with fail
  refine (trystlaw03.awake_any _).mono ?_
  rintro e w1 ⟨rfl, hb1⟩
  go_wp2_with fail
  refine (week_no _ _ _ HD.out).mono ?_
  rintro e w2 ⟨rfl, hb2⟩
  go_wp2_with fail
  refine (first_arg _ _ _ (by omega) (by omega) HS.out).mono ?_
  rintro e w' ⟨rfl, rfl⟩
  go_wp2_with fail
  refine (weeks_arg _ _ _ (by omega) (by omega) HS.out).mono ?_
  rintro e w' ⟨rfl, rfl⟩
  go_wp2_with (first | (go_at_call 13; refine (in_any _ _).mono ?_; rintro e w' ⟨rfl, rfl⟩; rw [HD.out]))
  go_ret
  exact ⟨rfl, (hb1.trans hb2)⟩

set_option maxRecDepth 8000 in
set_option maxHeartbeats 2000000 in
theorem weeks_n_hi_neg (n s y : Int) (w : World) (hd : Cal.dayB n = false) (hs : stB s = false) (s0 : 0 ≤ s) (s1 : 6 < s) (y1 : y < 0) :
    Calls Try.prog 7 #[.int .i64 n, .int .i64 s, .int .i64 y] w fun e w' => e = .returned (.bool true) ∧ Gr w w' := by
  have HD := Lib.hid hd; have HS := Lib.hid hs
  clear hd hs
  go_enter Try.func7, Try.ntmps7
  go_wp2_with fail
  refine (trystlaw03.awake_any _).mono ?_
  rintro e w1 ⟨rfl, hb1⟩
  go_wp2_with fail
  refine (week_no _ _ _ HD.out).mono ?_
  rintro e w2 ⟨rfl, hb2⟩
  go_wp2_with fail
  refine (first_far _ _ _ (by omega)).mono ?_
  rintro e w' ⟨rfl, rfl⟩
  go_wp2_with fail
  refine (weeks_far _ _ _ (by omega)).mono ?_
  rintro e w' ⟨rfl, rfl⟩
  go_wp2_with (first | (go_at_call 13; refine (in_any _ _).mono ?_; rintro e w' ⟨rfl, rfl⟩; rw [HD.out]))
  go_ret
  exact ⟨rfl, (hb1.trans hb2)⟩

set_option maxRecDepth 8000 in
set_option maxHeartbeats 2000000 in
theorem weeks_n_hi_far (n s y : Int) (w : World) (hd : Cal.dayB n = false) (hs : stB s = false) (s0 : 0 ≤ s) (s1 : 6 < s) (y0 : 0 ≤ y) (y1 : 10000 < y) :
    Calls Try.prog 7 #[.int .i64 n, .int .i64 s, .int .i64 y] w fun e w' => e = .returned (.bool true) ∧ Gr w w' := by
  have HD := Lib.hid hd; have HS := Lib.hid hs
  clear hd hs
  go_enter Try.func7, Try.ntmps7
  go_wp2_with fail
  refine (trystlaw03.awake_any _).mono ?_
  rintro e w1 ⟨rfl, hb1⟩
  go_wp2_with fail
  refine (week_no _ _ _ HD.out).mono ?_
  rintro e w2 ⟨rfl, hb2⟩
  go_wp2_with fail
  refine (first_far _ _ _ (by omega)).mono ?_
  rintro e w' ⟨rfl, rfl⟩
  go_wp2_with fail
  refine (weeks_far _ _ _ (by omega)).mono ?_
  rintro e w' ⟨rfl, rfl⟩
  go_wp2_with (first | (go_at_call 13; refine (in_any _ _).mono ?_; rintro e w' ⟨rfl, rfl⟩; rw [HD.out]))
  go_ret
  exact ⟨rfl, (hb1.trans hb2)⟩

set_option maxRecDepth 8000 in
set_option maxHeartbeats 2000000 in
theorem weeks_n_hi_10000 (n s : Int) (w : World) (hd : Cal.dayB n = false) (hs : stB s = false) (s0 : 0 ≤ s) (s1 : 6 < s) :
    Calls Try.prog 7 #[.int .i64 n, .int .i64 s, .int .i64 10000] w fun e w' => e = .returned (.bool true) ∧ Gr w w' := by
  have HD := Lib.hid hd; have HS := Lib.hid hs
  clear hd hs
  go_enter Try.func7, Try.ntmps7
  go_wp2_with fail
  refine (trystlaw03.awake_any _).mono ?_
  rintro e w1 ⟨rfl, hb1⟩
  go_wp2_with fail
  refine (week_no _ _ _ HD.out).mono ?_
  rintro e w2 ⟨rfl, hb2⟩
  go_wp2_with fail
  refine (first_arg _ _ _ (by omega) (by omega) HS.out).mono ?_
  rintro e w' ⟨rfl, rfl⟩
  go_wp2_with fail
  refine (weeks_far _ _ _ (by omega)).mono ?_
  rintro e w' ⟨rfl, rfl⟩
  go_wp2_with (first | (go_at_call 13; refine (in_any _ _).mono ?_; rintro e w' ⟨rfl, rfl⟩; rw [HD.out]))
  go_ret
  exact ⟨rfl, (hb1.trans hb2)⟩

set_option maxRecDepth 8000 in
set_option maxHeartbeats 2000000 in
theorem weeks_n_hi_in (n s y : Int) (w : World) (hd : Cal.dayB n = false) (hs : stB s = false) (s0 : 0 ≤ s) (s1 : 6 < s) (y0 : 0 ≤ y) (y1 : y ≤ 9999) :
    Calls Try.prog 7 #[.int .i64 n, .int .i64 s, .int .i64 y] w fun e w' => e = .returned (.bool true) ∧ Gr w w' := by
  have HD := Lib.hid hd; have HS := Lib.hid hs
  clear hd hs
  go_enter Try.func7, Try.ntmps7
  go_wp2_with fail
  refine (trystlaw03.awake_any _).mono ?_
  rintro e w1 ⟨rfl, hb1⟩
  go_wp2_with fail
  refine (week_no _ _ _ HD.out).mono ?_
  rintro e w2 ⟨rfl, hb2⟩
  go_wp2_with fail
  refine (first_arg _ _ _ (by omega) (by omega) HS.out).mono ?_
  rintro e w' ⟨rfl, rfl⟩
  go_wp2_with fail
  refine (weeks_arg _ _ _ (by omega) (by omega) HS.out).mono ?_
  rintro e w' ⟨rfl, rfl⟩
  go_wp2_with (first | (go_at_call 13; refine (in_any _ _).mono ?_; rintro e w' ⟨rfl, rfl⟩; rw [HD.out]))
  go_ret
  exact ⟨rfl, (hb1.trans hb2)⟩

set_option maxRecDepth 8000 in
set_option maxHeartbeats 2000000 in
theorem weeks_n_ok_neg (n s y : Int) (w : World) (hd : Cal.dayB n = false) (hs : stB s = true) (s0 : 0 ≤ s) (_s1 : s ≤ 6) (y1 : y < 0) :
    Calls Try.prog 7 #[.int .i64 n, .int .i64 s, .int .i64 y] w fun e w' => e = .returned (.bool true) ∧ Gr w w' := by
  have HD := Lib.hid hd; have HS := Lib.hid hs
  clear hd hs
  go_enter Try.func7, Try.ntmps7
  go_wp2_with fail
  refine (trystlaw03.awake_any _).mono ?_
  rintro e w1 ⟨rfl, hb1⟩
  go_wp2_with fail
  refine (week_no _ _ _ HD.out).mono ?_
  rintro e w2 ⟨rfl, hb2⟩
  go_wp2_with fail
  refine (first_far _ _ _ (by omega)).mono ?_
  rintro e w' ⟨rfl, rfl⟩
  go_wp2_with fail
  refine (weeks_far _ _ _ (by omega)).mono ?_
  rintro e w' ⟨rfl, rfl⟩
  go_wp2_with (first | (go_at_call 13; refine (in_any _ _).mono ?_; rintro e w' ⟨rfl, rfl⟩; rw [HD.out]) | (go_at_call 18; refine (week1_any _ _ _ (by omega) (by omega) (by omega) (by omega)).mono ?_; rintro e w' ⟨rfl, rfl⟩))
  go_ret
  exact ⟨rfl, (hb1.trans hb2)⟩

set_option maxRecDepth 8000 in
set_option maxHeartbeats 2000000 in
theorem weeks_n_ok_far (n s y : Int) (w : World) (hd : Cal.dayB n = false) (hs : stB s = true) (s0 : 0 ≤ s) (_s1 : s ≤ 6) (y0 : 0 ≤ y) (y1 : 10000 < y) :
    Calls Try.prog 7 #[.int .i64 n, .int .i64 s, .int .i64 y] w fun e w' => e = .returned (.bool true) ∧ Gr w w' := by
  have HD := Lib.hid hd; have HS := Lib.hid hs
  clear hd hs
  go_enter Try.func7, Try.ntmps7
  go_wp2_with fail
  refine (trystlaw03.awake_any _).mono ?_
  rintro e w1 ⟨rfl, hb1⟩
  go_wp2_with fail
  refine (week_no _ _ _ HD.out).mono ?_
  rintro e w2 ⟨rfl, hb2⟩
  go_wp2_with fail
  refine (first_far _ _ _ (by omega)).mono ?_
  rintro e w' ⟨rfl, rfl⟩
  go_wp2_with fail
  refine (weeks_far _ _ _ (by omega)).mono ?_
  rintro e w' ⟨rfl, rfl⟩
  go_wp2_with (first | (go_at_call 13; refine (in_any _ _).mono ?_; rintro e w' ⟨rfl, rfl⟩; rw [HD.out]) | (go_at_call 18; refine (week1_any _ _ _ (by omega) (by omega) (by omega) (by omega)).mono ?_; rintro e w' ⟨rfl, rfl⟩))
  go_ret
  exact ⟨rfl, (hb1.trans hb2)⟩

set_option maxRecDepth 8000 in
set_option maxHeartbeats 2000000 in
theorem weeks_n_ok_10000 (n s : Int) (w : World) (hd : Cal.dayB n = false) (hs : stB s = true) (s0 : 0 ≤ s) (s1 : s ≤ 6) :
    Calls Try.prog 7 #[.int .i64 n, .int .i64 s, .int .i64 10000] w fun e w' => e = .returned (.bool true) ∧ Gr w w' := by
  have HD := Lib.hid hd; have HS := Lib.hid hs
  have c3 := w1_bdw s (a := 10000) (by omega) (by omega)
  clear hd hs
  go_enter Try.func7, Try.ntmps7
  go_wp2_with fail
  refine (trystlaw03.awake_any _).mono ?_
  rintro e w1 ⟨rfl, hb1⟩
  go_wp2_with fail
  refine (week_no _ _ _ HD.out).mono ?_
  rintro e w2 ⟨rfl, hb2⟩
  go_wp2_with fail
  refine (first_yes _ _ _ (by omega) (by omega) HS.out).mono ?_
  rintro e w3 ⟨rfl, hb3⟩
  go_wp2_with fail
  refine (weeks_far _ _ _ (by omega)).mono ?_
  rintro e w' ⟨rfl, rfl⟩
  go_wp2_with (first | (go_at_call 13; refine (in_any _ _).mono ?_; rintro e w' ⟨rfl, rfl⟩; rw [HD.out]) | (go_at_call 18; refine (week1_any _ _ _ (by omega) (by omega) (by omega) (by omega)).mono ?_; rintro e w' ⟨rfl, rfl⟩))
  go_ret
  exact ⟨rfl, ((hb1.trans hb2).trans hb3)⟩

set_option maxRecDepth 8000 in
set_option maxHeartbeats 2000000 in
theorem weeks_n_ok_52 (n s y : Int) (w : World) (hd : Cal.dayB n = false) (hs : stB s = true) (s0 : 0 ≤ s) (s1 : s ≤ 6) (y0 : 0 ≤ y) (y1 : y ≤ 9999) (st : w1 (y + 1) s = w1 y s + 364) :
    Calls Try.prog 7 #[.int .i64 n, .int .i64 s, .int .i64 y] w fun e w' => e = .returned (.bool true) ∧ Gr w w' := by
  have HD := Lib.hid hd; have HS := Lib.hid hs
  have NW : Hid (nw y s = 52) := by show _ = _; unfold nw; omega
  have c3 := w1_bdw s (a := y) (by omega) (by omega)
  have c4 := w1_bdw s (a := y + 1) (by omega) (by omega)
  clear hd hs
  go_enter Try.func7, Try.ntmps7
  go_wp2_with fail
  refine (trystlaw03.awake_any _).mono ?_
  rintro e w1 ⟨rfl, hb1⟩
  go_wp2_with fail
  refine (week_no _ _ _ HD.out).mono ?_
  rintro e w2 ⟨rfl, hb2⟩
  go_wp2_with fail
  refine (first_yes _ _ _ (by omega) (by omega) HS.out).mono ?_
  rintro e w3 ⟨rfl, hb3⟩
  go_wp2_with fail
  refine (weeks_yes _ _ _ (by omega) (by omega) HS.out).mono ?_
  rintro e w4 ⟨rfl, hb4⟩
  rw [NW.out]
  go_wp2_with (first | (go_at_call 13; refine (in_any _ _).mono ?_; rintro e w' ⟨rfl, rfl⟩; rw [HD.out]) | (go_at_call 18; refine (week1_any _ _ _ (by omega) (by omega) (by omega) (by omega)).mono ?_; rintro e w' ⟨rfl, rfl⟩))
  go_ret
  exact ⟨rfl, (((hb1.trans hb2).trans hb3).trans hb4)⟩

set_option maxRecDepth 8000 in
set_option maxHeartbeats 2000000 in
theorem weeks_n_ok_53 (n s y : Int) (w : World) (hd : Cal.dayB n = false) (hs : stB s = true) (s0 : 0 ≤ s) (s1 : s ≤ 6) (y0 : 0 ≤ y) (y1 : y ≤ 9999) (st : w1 (y + 1) s = w1 y s + 371) :
    Calls Try.prog 7 #[.int .i64 n, .int .i64 s, .int .i64 y] w fun e w' => e = .returned (.bool true) ∧ Gr w w' := by
  have HD := Lib.hid hd; have HS := Lib.hid hs
  have NW : Hid (nw y s = 53) := by show _ = _; unfold nw; omega
  have c3 := w1_bdw s (a := y) (by omega) (by omega)
  have c4 := w1_bdw s (a := y + 1) (by omega) (by omega)
  clear hd hs
  go_enter Try.func7, Try.ntmps7
  go_wp2_with fail
  refine (trystlaw03.awake_any _).mono ?_
  rintro e w1 ⟨rfl, hb1⟩
  go_wp2_with fail
  refine (week_no _ _ _ HD.out).mono ?_
  rintro e w2 ⟨rfl, hb2⟩
  go_wp2_with fail
  refine (first_yes _ _ _ (by omega) (by omega) HS.out).mono ?_
  rintro e w3 ⟨rfl, hb3⟩
  go_wp2_with fail
  refine (weeks_yes _ _ _ (by omega) (by omega) HS.out).mono ?_
  rintro e w4 ⟨rfl, hb4⟩
  rw [NW.out]
  go_wp2_with (first | (go_at_call 13; refine (in_any _ _).mono ?_; rintro e w' ⟨rfl, rfl⟩; rw [HD.out]) | (go_at_call 18; refine (week1_any _ _ _ (by omega) (by omega) (by omega) (by omega)).mono ?_; rintro e w' ⟨rfl, rfl⟩))
  go_ret
  exact ⟨rfl, (((hb1.trans hb2).trans hb3).trans hb4)⟩

set_option maxRecDepth 8000 in
set_option maxHeartbeats 2000000 in
theorem weeks_y_lo_neg (n s y : Int) (w : World) (hd : Cal.dayB n = true) (hs : stB s = false) (s1 : s < 0) (y1 : y < 0) :
    Calls Try.prog 7 #[.int .i64 n, .int .i64 s, .int .i64 y] w fun e w' => e = .returned (.bool true) ∧ Gr w w' := by
  have HD := Lib.hid hd; have HS := Lib.hid hs
  clear hd hs
  go_enter Try.func7, Try.ntmps7
  go_wp2_with fail
  refine (trystlaw03.awake_any _).mono ?_
  rintro e w1 ⟨rfl, hb1⟩
  go_wp2_with fail
  refine (week_arg _ _ _ HD.out HS.out).mono ?_
  rintro e w2 ⟨rfl, hb2⟩
  go_wp2_with fail
  refine (first_far _ _ _ (by omega)).mono ?_
  rintro e w' ⟨rfl, rfl⟩
  go_wp2_with fail
  refine (weeks_far _ _ _ (by omega)).mono ?_
  rintro e w' ⟨rfl, rfl⟩
  go_wp2_with (first | (go_at_call 13; refine (in_any _ _).mono ?_; rintro e w' ⟨rfl, rfl⟩; rw [HD.out]))
  go_ret
  exact ⟨rfl, (hb1.trans hb2)⟩

set_option maxRecDepth 8000 in
set_option maxHeartbeats 2000000 in
theorem weeks_y_lo_far (n s y : Int) (w : World) (hd : Cal.dayB n = true) (hs : stB s = false) (s1 : s < 0) (y0 : 0 ≤ y) (y1 : 10000 < y) :
    Calls Try.prog 7 #[.int .i64 n, .int .i64 s, .int .i64 y] w fun e w' => e = .returned (.bool true) ∧ Gr w w' := by
  have HD := Lib.hid hd; have HS := Lib.hid hs
  clear hd hs
  go_enter Try.func7, Try.ntmps7
  go_wp2_with fail
  refine (trystlaw03.awake_any _).mono ?_
  rintro e w1 ⟨rfl, hb1⟩
  go_wp2_with fail
  refine (week_arg _ _ _ HD.out HS.out).mono ?_
  rintro e w2 ⟨rfl, hb2⟩
  go_wp2_with fail
  refine (first_far _ _ _ (by omega)).mono ?_
  rintro e w' ⟨rfl, rfl⟩
  go_wp2_with fail
  refine (weeks_far _ _ _ (by omega)).mono ?_
  rintro e w' ⟨rfl, rfl⟩
  go_wp2_with (first | (go_at_call 13; refine (in_any _ _).mono ?_; rintro e w' ⟨rfl, rfl⟩; rw [HD.out]))
  go_ret
  exact ⟨rfl, (hb1.trans hb2)⟩

set_option maxRecDepth 8000 in
set_option maxHeartbeats 2000000 in
theorem weeks_y_lo_10000 (n s : Int) (w : World) (hd : Cal.dayB n = true) (hs : stB s = false) (s1 : s < 0) :
    Calls Try.prog 7 #[.int .i64 n, .int .i64 s, .int .i64 10000] w fun e w' => e = .returned (.bool true) ∧ Gr w w' := by
  have HD := Lib.hid hd; have HS := Lib.hid hs
  clear hd hs
  go_enter Try.func7, Try.ntmps7
  go_wp2_with fail
  refine (trystlaw03.awake_any _).mono ?_
  rintro e w1 ⟨rfl, hb1⟩
  go_wp2_with fail
  refine (week_arg _ _ _ HD.out HS.out).mono ?_
  rintro e w2 ⟨rfl, hb2⟩
  go_wp2_with fail
  refine (first_arg _ _ _ (by omega) (by omega) HS.out).mono ?_
  rintro e w' ⟨rfl, rfl⟩
  go_wp2_with fail
  refine (weeks_far _ _ _ (by omega)).mono ?_
  rintro e w' ⟨rfl, rfl⟩
  go_wp2_with (first | (go_at_call 13; refine (in_any _ _).mono ?_; rintro e w' ⟨rfl, rfl⟩; rw [HD.out]))
  go_ret
  exact ⟨rfl, (hb1.trans hb2)⟩

set_option maxRecDepth 8000 in
set_option maxHeartbeats 2000000 in
theorem weeks_y_lo_in (n s y : Int) (w : World) (hd : Cal.dayB n = true) (hs : stB s = false) (s1 : s < 0) (y0 : 0 ≤ y) (y1 : y ≤ 9999) :
    Calls Try.prog 7 #[.int .i64 n, .int .i64 s, .int .i64 y] w fun e w' => e = .returned (.bool true) ∧ Gr w w' := by
  have HD := Lib.hid hd; have HS := Lib.hid hs
  clear hd hs
  go_enter Try.func7, Try.ntmps7
  go_wp2_with fail
  refine (trystlaw03.awake_any _).mono ?_
  rintro e w1 ⟨rfl, hb1⟩
  go_wp2_with fail
  refine (week_arg _ _ _ HD.out HS.out).mono ?_
  rintro e w2 ⟨rfl, hb2⟩
  go_wp2_with fail
  refine (first_arg _ _ _ (by omega) (by omega) HS.out).mono ?_
  rintro e w' ⟨rfl, rfl⟩
  go_wp2_with fail
  refine (weeks_arg _ _ _ (by omega) (by omega) HS.out).mono ?_
  rintro e w' ⟨rfl, rfl⟩
  go_wp2_with (first | (go_at_call 13; refine (in_any _ _).mono ?_; rintro e w' ⟨rfl, rfl⟩; rw [HD.out]))
  go_ret
  exact ⟨rfl, (hb1.trans hb2)⟩

set_option maxRecDepth 8000 in
set_option maxHeartbeats 2000000 in
theorem weeks_y_hi_neg (n s y : Int) (w : World) (hd : Cal.dayB n = true) (hs : stB s = false) (s0 : 0 ≤ s) (s1 : 6 < s) (y1 : y < 0) :
    Calls Try.prog 7 #[.int .i64 n, .int .i64 s, .int .i64 y] w fun e w' => e = .returned (.bool true) ∧ Gr w w' := by
  have HD := Lib.hid hd; have HS := Lib.hid hs
  clear hd hs
  go_enter Try.func7, Try.ntmps7
  go_wp2_with fail
  refine (trystlaw03.awake_any _).mono ?_
  rintro e w1 ⟨rfl, hb1⟩
  go_wp2_with fail
  refine (week_arg _ _ _ HD.out HS.out).mono ?_
  rintro e w2 ⟨rfl, hb2⟩
  go_wp2_with fail
  refine (first_far _ _ _ (by omega)).mono ?_
  rintro e w' ⟨rfl, rfl⟩
  go_wp2_with fail
  refine (weeks_far _ _ _ (by omega)).mono ?_
  rintro e w' ⟨rfl, rfl⟩
  go_wp2_with (first | (go_at_call 13; refine (in_any _ _).mono ?_; rintro e w' ⟨rfl, rfl⟩; rw [HD.out]))
  go_ret
  exact ⟨rfl, (hb1.trans hb2)⟩

set_option maxRecDepth 8000 in
set_option maxHeartbeats 2000000 in
theorem weeks_y_hi_far (n s y : Int) (w : World) (hd : Cal.dayB n = true) (hs : stB s = false) (s0 : 0 ≤ s) (s1 : 6 < s) (y0 : 0 ≤ y) (y1 : 10000 < y) :
    Calls Try.prog 7 #[.int .i64 n, .int .i64 s, .int .i64 y] w fun e w' => e = .returned (.bool true) ∧ Gr w w' := by
  have HD := Lib.hid hd; have HS := Lib.hid hs
  clear hd hs
  go_enter Try.func7, Try.ntmps7
  go_wp2_with fail
  refine (trystlaw03.awake_any _).mono ?_
  rintro e w1 ⟨rfl, hb1⟩
  go_wp2_with fail
  refine (week_arg _ _ _ HD.out HS.out).mono ?_
  rintro e w2 ⟨rfl, hb2⟩
  go_wp2_with fail
  refine (first_far _ _ _ (by omega)).mono ?_
  rintro e w' ⟨rfl, rfl⟩
  go_wp2_with fail
  refine (weeks_far _ _ _ (by omega)).mono ?_
  rintro e w' ⟨rfl, rfl⟩
  go_wp2_with (first | (go_at_call 13; refine (in_any _ _).mono ?_; rintro e w' ⟨rfl, rfl⟩; rw [HD.out]))
  go_ret
  exact ⟨rfl, (hb1.trans hb2)⟩

set_option maxRecDepth 8000 in
set_option maxHeartbeats 2000000 in
theorem weeks_y_hi_10000 (n s : Int) (w : World) (hd : Cal.dayB n = true) (hs : stB s = false) (s0 : 0 ≤ s) (s1 : 6 < s) :
    Calls Try.prog 7 #[.int .i64 n, .int .i64 s, .int .i64 10000] w fun e w' => e = .returned (.bool true) ∧ Gr w w' := by
  have HD := Lib.hid hd; have HS := Lib.hid hs
  clear hd hs
  go_enter Try.func7, Try.ntmps7
  go_wp2_with fail
  refine (trystlaw03.awake_any _).mono ?_
  rintro e w1 ⟨rfl, hb1⟩
  go_wp2_with fail
  refine (week_arg _ _ _ HD.out HS.out).mono ?_
  rintro e w2 ⟨rfl, hb2⟩
  go_wp2_with fail
  refine (first_arg _ _ _ (by omega) (by omega) HS.out).mono ?_
  rintro e w' ⟨rfl, rfl⟩
  go_wp2_with fail
  refine (weeks_far _ _ _ (by omega)).mono ?_
  rintro e w' ⟨rfl, rfl⟩
  go_wp2_with (first | (go_at_call 13; refine (in_any _ _).mono ?_; rintro e w' ⟨rfl, rfl⟩; rw [HD.out]))
  go_ret
  exact ⟨rfl, (hb1.trans hb2)⟩

set_option maxRecDepth 8000 in
set_option maxHeartbeats 2000000 in
theorem weeks_y_hi_in (n s y : Int) (w : World) (hd : Cal.dayB n = true) (hs : stB s = false) (s0 : 0 ≤ s) (s1 : 6 < s) (y0 : 0 ≤ y) (y1 : y ≤ 9999) :
    Calls Try.prog 7 #[.int .i64 n, .int .i64 s, .int .i64 y] w fun e w' => e = .returned (.bool true) ∧ Gr w w' := by
  have HD := Lib.hid hd; have HS := Lib.hid hs
  clear hd hs
  go_enter Try.func7, Try.ntmps7
  go_wp2_with fail
  refine (trystlaw03.awake_any _).mono ?_
  rintro e w1 ⟨rfl, hb1⟩
  go_wp2_with fail
  refine (week_arg _ _ _ HD.out HS.out).mono ?_
  rintro e w2 ⟨rfl, hb2⟩
  go_wp2_with fail
  refine (first_arg _ _ _ (by omega) (by omega) HS.out).mono ?_
  rintro e w' ⟨rfl, rfl⟩
  go_wp2_with fail
  refine (weeks_arg _ _ _ (by omega) (by omega) HS.out).mono ?_
  rintro e w' ⟨rfl, rfl⟩
  go_wp2_with (first | (go_at_call 13; refine (in_any _ _).mono ?_; rintro e w' ⟨rfl, rfl⟩; rw [HD.out]))
  go_ret
  exact ⟨rfl, (hb1.trans hb2)⟩

set_option maxRecDepth 8000 in
set_option maxHeartbeats 2000000 in
theorem weeks_y_ok_neg (n s y : Int) (w : World) (hd : Cal.dayB n = true) (hs : stB s = true) (s0 : 0 ≤ s) (s1 : s ≤ 6) (y1 : y < 0) :
    Calls Try.prog 7 #[.int .i64 n, .int .i64 s, .int .i64 y] w fun e w' => e = .returned (.bool true) ∧ Gr w w' := by
  have HD := Lib.hid hd; have HS := Lib.hid hs
  obtain ⟨n1, n2⟩ := Cal.dayB_iff.1 hd
  have yb := Cal.yr_bd n1 n2
  have nr := wy_near s n
  obtain ⟨sp1, sp2⟩ := wy_spec s n
  have c1 := w1_bdw s (a := wy s n) (by omega) (by omega)
  have c2 := w1_bdw s (a := wy s n + 1) (by omega) (by omega)
  have WN : Hid (wn s n = (n - w1 (wy s n) s) / 7 + 1) := rfl
  clear hd hs
  go_enter Try.func7, Try.ntmps7
  go_wp2_with fail
  refine (trystlaw03.awake_any _).mono ?_
  rintro e w1 ⟨rfl, hb1⟩
  go_wp2_with fail
  refine (week_yes _ _ _ HD.out HS.out).mono ?_
  rintro e w2 ⟨rfl, hb2⟩
  rw [WN.out]
  go_wp2_with fail
  refine (first_far _ _ _ (by omega)).mono ?_
  rintro e w' ⟨rfl, rfl⟩
  go_wp2_with fail
  refine (weeks_far _ _ _ (by omega)).mono ?_
  rintro e w' ⟨rfl, rfl⟩
  go_wp2_with (first | (go_at_call 13; refine (in_any _ _).mono ?_; rintro e w' ⟨rfl, rfl⟩; rw [HD.out]) | (go_at_call 18; refine (week1_any _ _ _ (by omega) (by omega) (by omega) (by omega)).mono ?_; rintro e w' ⟨rfl, rfl⟩))
  go_ret
  exact ⟨rfl, (hb1.trans hb2)⟩

set_option maxRecDepth 8000 in
set_option maxHeartbeats 2000000 in
theorem weeks_y_ok_far (n s y : Int) (w : World) (hd : Cal.dayB n = true) (hs : stB s = true) (s0 : 0 ≤ s) (s1 : s ≤ 6) (y0 : 0 ≤ y) (y1 : 10000 < y) :
    Calls Try.prog 7 #[.int .i64 n, .int .i64 s, .int .i64 y] w fun e w' => e = .returned (.bool true) ∧ Gr w w' := by
  have HD := Lib.hid hd; have HS := Lib.hid hs
  obtain ⟨n1, n2⟩ := Cal.dayB_iff.1 hd
  have yb := Cal.yr_bd n1 n2
  have nr := wy_near s n
  obtain ⟨sp1, sp2⟩ := wy_spec s n
  have c1 := w1_bdw s (a := wy s n) (by omega) (by omega)
  have c2 := w1_bdw s (a := wy s n + 1) (by omega) (by omega)
  have WN : Hid (wn s n = (n - w1 (wy s n) s) / 7 + 1) := rfl
  clear hd hs
  go_enter Try.func7, Try.ntmps7
  go_wp2_with fail
  refine (trystlaw03.awake_any _).mono ?_
  rintro e w1 ⟨rfl, hb1⟩
  go_wp2_with fail
  refine (week_yes _ _ _ HD.out HS.out).mono ?_
  rintro e w2 ⟨rfl, hb2⟩
  rw [WN.out]
  go_wp2_with fail
  refine (first_far _ _ _ (by omega)).mono ?_
  rintro e w' ⟨rfl, rfl⟩
  go_wp2_with fail
  refine (weeks_far _ _ _ (by omega)).mono ?_
  rintro e w' ⟨rfl, rfl⟩
  go_wp2_with (first | (go_at_call 13; refine (in_any _ _).mono ?_; rintro e w' ⟨rfl, rfl⟩; rw [HD.out]) | (go_at_call 18; refine (week1_any _ _ _ (by omega) (by omega) (by omega) (by omega)).mono ?_; rintro e w' ⟨rfl, rfl⟩))
  go_ret
  exact ⟨rfl, (hb1.trans hb2)⟩

set_option maxRecDepth 8000 in
set_option maxHeartbeats 2000000 in
theorem weeks_y_ok_10000 (n s : Int) (w : World) (hd : Cal.dayB n = true) (hs : stB s = true) (s0 : 0 ≤ s) (s1 : s ≤ 6) :
    Calls Try.prog 7 #[.int .i64 n, .int .i64 s, .int .i64 10000] w fun e w' => e = .returned (.bool true) ∧ Gr w w' := by
  have HD := Lib.hid hd; have HS := Lib.hid hs
  obtain ⟨n1, n2⟩ := Cal.dayB_iff.1 hd
  have yb := Cal.yr_bd n1 n2
  have nr := wy_near s n
  obtain ⟨sp1, sp2⟩ := wy_spec s n
  have c1 := w1_bdw s (a := wy s n) (by omega) (by omega)
  have c2 := w1_bdw s (a := wy s n + 1) (by omega) (by omega)
  have WN : Hid (wn s n = (n - w1 (wy s n) s) / 7 + 1) := rfl
  have c3 := w1_bdw s (a := 10000) (by omega) (by omega)
  clear hd hs
  go_enter Try.func7, Try.ntmps7
  go_wp2_with fail
  refine (trystlaw03.awake_any _).mono ?_
  rintro e w1 ⟨rfl, hb1⟩
  go_wp2_with fail
  refine (week_yes _ _ _ HD.out HS.out).mono ?_
  rintro e w2 ⟨rfl, hb2⟩
  rw [WN.out]
  go_wp2_with fail
  refine (first_yes _ _ _ (by omega) (by omega) HS.out).mono ?_
  rintro e w3 ⟨rfl, hb3⟩
  go_wp2_with fail
  refine (weeks_far _ _ _ (by omega)).mono ?_
  rintro e w' ⟨rfl, rfl⟩
  go_wp2_with (first | (go_at_call 13; refine (in_any _ _).mono ?_; rintro e w' ⟨rfl, rfl⟩; rw [HD.out]) | (go_at_call 18; refine (week1_any _ _ _ (by omega) (by omega) (by omega) (by omega)).mono ?_; rintro e w' ⟨rfl, rfl⟩))
  go_ret
  exact ⟨rfl, ((hb1.trans hb2).trans hb3)⟩

set_option maxRecDepth 8000 in
set_option maxHeartbeats 2000000 in
theorem weeks_y_ok_52 (n s y : Int) (w : World) (hd : Cal.dayB n = true) (hs : stB s = true) (s0 : 0 ≤ s) (s1 : s ≤ 6) (y0 : 0 ≤ y) (y1 : y ≤ 9999) (st : w1 (y + 1) s = w1 y s + 364) :
    Calls Try.prog 7 #[.int .i64 n, .int .i64 s, .int .i64 y] w fun e w' => e = .returned (.bool true) ∧ Gr w w' := by
  have HD := Lib.hid hd; have HS := Lib.hid hs
  obtain ⟨n1, n2⟩ := Cal.dayB_iff.1 hd
  have yb := Cal.yr_bd n1 n2
  have nr := wy_near s n
  obtain ⟨sp1, sp2⟩ := wy_spec s n
  have c1 := w1_bdw s (a := wy s n) (by omega) (by omega)
  have c2 := w1_bdw s (a := wy s n + 1) (by omega) (by omega)
  have WN : Hid (wn s n = (n - w1 (wy s n) s) / 7 + 1) := rfl
  have NW : Hid (nw y s = 52) := by show _ = _; unfold nw; omega
  have c3 := w1_bdw s (a := y) (by omega) (by omega)
  have c4 := w1_bdw s (a := y + 1) (by omega) (by omega)
  clear hd hs
  go_enter Try.func7, Try.ntmps7
  go_wp2_with fail
  refine (trystlaw03.awake_any _).mono ?_
  rintro e w1 ⟨rfl, hb1⟩
  go_wp2_with fail
  refine (week_yes _ _ _ HD.out HS.out).mono ?_
  rintro e w2 ⟨rfl, hb2⟩
  rw [WN.out]
  go_wp2_with fail
  refine (first_yes _ _ _ (by omega) (by omega) HS.out).mono ?_
  rintro e w3 ⟨rfl, hb3⟩
  go_wp2_with fail
  refine (weeks_yes _ _ _ (by omega) (by omega) HS.out).mono ?_
  rintro e w4 ⟨rfl, hb4⟩
  rw [NW.out]
  go_wp2_with (first | (go_at_call 13; refine (in_any _ _).mono ?_; rintro e w' ⟨rfl, rfl⟩; rw [HD.out]) | (go_at_call 18; refine (week1_any _ _ _ (by omega) (by omega) (by omega) (by omega)).mono ?_; rintro e w' ⟨rfl, rfl⟩))
  go_ret
  exact ⟨rfl, (((hb1.trans hb2).trans hb3).trans hb4)⟩

set_option maxRecDepth 8000 in
set_option maxHeartbeats 2000000 in
theorem weeks_y_ok_53 (n s y : Int) (w : World) (hd : Cal.dayB n = true) (hs : stB s = true) (s0 : 0 ≤ s) (s1 : s ≤ 6) (y0 : 0 ≤ y) (y1 : y ≤ 9999) (st : w1 (y + 1) s = w1 y s + 371) :
    Calls Try.prog 7 #[.int .i64 n, .int .i64 s, .int .i64 y] w fun e w' => e = .returned (.bool true) ∧ Gr w w' := by
  have HD := Lib.hid hd; have HS := Lib.hid hs
  obtain ⟨n1, n2⟩ := Cal.dayB_iff.1 hd
  have yb := Cal.yr_bd n1 n2
  have nr := wy_near s n
  obtain ⟨sp1, sp2⟩ := wy_spec s n
  have c1 := w1_bdw s (a := wy s n) (by omega) (by omega)
  have c2 := w1_bdw s (a := wy s n + 1) (by omega) (by omega)
  have WN : Hid (wn s n = (n - w1 (wy s n) s) / 7 + 1) := rfl
  have NW : Hid (nw y s = 53) := by show _ = _; unfold nw; omega
  have c3 := w1_bdw s (a := y) (by omega) (by omega)
  have c4 := w1_bdw s (a := y + 1) (by omega) (by omega)
  clear hd hs
  go_enter Try.func7, Try.ntmps7
  go_wp2_with fail
  refine (trystlaw03.awake_any _).mono ?_
  rintro e w1 ⟨rfl, hb1⟩
  go_wp2_with fail
  refine (week_yes _ _ _ HD.out HS.out).mono ?_
  rintro e w2 ⟨rfl, hb2⟩
  rw [WN.out]
  go_wp2_with fail
  refine (first_yes _ _ _ (by omega) (by omega) HS.out).mono ?_
  rintro e w3 ⟨rfl, hb3⟩
  go_wp2_with fail
  refine (weeks_yes _ _ _ (by omega) (by omega) HS.out).mono ?_
  rintro e w4 ⟨rfl, hb4⟩
  rw [NW.out]
  go_wp2_with (first | (go_at_call 13; refine (in_any _ _).mono ?_; rintro e w' ⟨rfl, rfl⟩; rw [HD.out]) | (go_at_call 18; refine (week1_any _ _ _ (by omega) (by omega) (by omega) (by omega)).mono ?_; rintro e w' ⟨rfl, rfl⟩))
  go_ret
  exact ⟨rfl, (((hb1.trans hb2).trans hb3).trans hb4)⟩

theorem weeks_walk (n s y : Int) (w : World) :
    Calls Try.prog 7 #[.int .i64 n, .int .i64 s, .int .i64 y] w fun e w' => e = .returned (.bool true) ∧ Gr w w' := by
  have no : ¬ (0 ≤ s ∧ s < 7) → stB s = false := by intro h; rw [← stB_iff] at h; simpa using h
  cases hd : Cal.dayB n
  · by_cases a : s < 0
    · by_cases c : y < 0
      · exact weeks_n_lo_neg n s y w hd (no (by omega)) a c
      · by_cases d : 10000 < y
        · exact weeks_n_lo_far n s y w hd (no (by omega)) a (by omega) d
        · by_cases e : y = 10000
          · subst e; exact weeks_n_lo_10000 n s w hd (no (by omega)) a
          · exact weeks_n_lo_in n s y w hd (no (by omega)) a (by omega) (by omega)
    · by_cases b : 6 < s
      · by_cases c : y < 0
        · exact weeks_n_hi_neg n s y w hd (no (by omega)) (by omega) b c
        · by_cases d : 10000 < y
          · exact weeks_n_hi_far n s y w hd (no (by omega)) (by omega) b (by omega) d
          · by_cases e : y = 10000
            · subst e; exact weeks_n_hi_10000 n s w hd (no (by omega)) (by omega) b
            · exact weeks_n_hi_in n s y w hd (no (by omega)) (by omega) b (by omega) (by omega)
      · by_cases c : y < 0
        · exact weeks_n_ok_neg n s y w hd (stB_iff.2 (by omega)) (by omega) (by omega) c
        · by_cases d : 10000 < y
          · exact weeks_n_ok_far n s y w hd (stB_iff.2 (by omega)) (by omega) (by omega) (by omega) d
          · by_cases e : y = 10000
            · subst e; exact weeks_n_ok_10000 n s w hd (stB_iff.2 (by omega)) (by omega) (by omega)
            · rcases w1_step y (s := s) (by omega) (by omega) with k | k
              · exact weeks_n_ok_52 n s y w hd (stB_iff.2 (by omega)) (by omega) (by omega) (by omega) (by omega) k
              · exact weeks_n_ok_53 n s y w hd (stB_iff.2 (by omega)) (by omega) (by omega) (by omega) (by omega) k
  · by_cases a : s < 0
    · by_cases c : y < 0
      · exact weeks_y_lo_neg n s y w hd (no (by omega)) a c
      · by_cases d : 10000 < y
        · exact weeks_y_lo_far n s y w hd (no (by omega)) a (by omega) d
        · by_cases e : y = 10000
          · subst e; exact weeks_y_lo_10000 n s w hd (no (by omega)) a
          · exact weeks_y_lo_in n s y w hd (no (by omega)) a (by omega) (by omega)
    · by_cases b : 6 < s
      · by_cases c : y < 0
        · exact weeks_y_hi_neg n s y w hd (no (by omega)) (by omega) b c
        · by_cases d : 10000 < y
          · exact weeks_y_hi_far n s y w hd (no (by omega)) (by omega) b (by omega) d
          · by_cases e : y = 10000
            · subst e; exact weeks_y_hi_10000 n s w hd (no (by omega)) (by omega) b
            · exact weeks_y_hi_in n s y w hd (no (by omega)) (by omega) b (by omega) (by omega)
      · by_cases c : y < 0
        · exact weeks_y_ok_neg n s y w hd (stB_iff.2 (by omega)) (by omega) (by omega) c
        · by_cases d : 10000 < y
          · exact weeks_y_ok_far n s y w hd (stB_iff.2 (by omega)) (by omega) (by omega) (by omega) d
          · by_cases e : y = 10000
            · subst e; exact weeks_y_ok_10000 n s w hd (stB_iff.2 (by omega)) (by omega) (by omega)
            · rcases w1_step y (s := s) (by omega) (by omega) with k | k
              · exact weeks_y_ok_52 n s y w hd (stB_iff.2 (by omega)) (by omega) (by omega) (by omega) (by omega) k
              · exact weeks_y_ok_53 n s y w hd (stB_iff.2 (by omega)) (by omega) (by omega) (by omega) (by omega) k
end Go.Proofs.Ytcgcdolafooffaa.Iso
