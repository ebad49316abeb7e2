/- The law RataBack returns true. -/
import Derived.Test.YtchjickolljlcaaAwake
namespace Go.Proofs.Ytchjickolljlcaa
open Go.RowKit

set_option maxHeartbeats 1000000 in
theorem back_walk (n : Int) (w : World) :
    Calls Try.prog 5 #[.int .i64 n] w fun e w' => e = .returned (.bool true) ∧ Gr w w' := by
  by_cases h : Cal.dayB n = true
  · obtain ⟨s1, s2⟩ := Cal.date_spec h
    have S1 := Lib.hid s1; have S2 := Lib.hid s2; have H := Lib.hid h
    clear s1 s2 h
    go_enter Try.func5, Try.ntmps5
    go_wp2_with fail
    refine (awake_any _).mono ?_
    rintro e w1 ⟨rfl, hb1⟩
    go_wp2_with fail
    refine (date_yes _ _ H.out).mono ?_
    rintro e w2 ⟨rfl, hb2⟩
    go_wp2_with fail
    refine (day_yes _ _ _ _ S1.out).mono ?_
    rintro e w3 ⟨rfl, hb3⟩
    obtain ⟨c0, c1, c2⟩ := box3 hb3
    rw [S2.out]
    go_wp2_with fail
    refine (right_any _ _ _ _).mono ?_
    rintro e w4 ⟨rfl, hb4⟩
    rw [S1.out]
    go_wp2
    go_ret
    exact ⟨rfl, (((hb1.trans hb2).alloc _ _).trans hb3).trans hb4⟩
  · have h' : Cal.dayB n = false := by simpa using h
    have H := Lib.hid h'
    clear h h'
    go_enter Try.func5, Try.ntmps5
    go_wp2_with fail
    refine (awake_any _).mono ?_
    rintro e w1 ⟨rfl, hb1⟩
    go_wp2_with fail
    refine (date_no _ _ H.out).mono ?_
    rintro e w2 ⟨rfl, hb2⟩
    go_wp2_with fail
    refine (in_any _ _).mono ?_
    rintro e w3 ⟨rfl, rfl⟩
    rw [H.out]
    go_wp2
    go_ret
    exact ⟨rfl, (hb1.trans hb2).alloc _ _⟩
end Go.Proofs.Ytchjickolljlcaa
