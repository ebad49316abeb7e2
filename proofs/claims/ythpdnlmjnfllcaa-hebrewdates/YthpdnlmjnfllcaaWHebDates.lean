/- The law HebrewDates returns true. -/
import Derived.Test.YthpdnlmjnfllcaaRefTHeb
import Derived.Test.YthpdnlmjnfllcaaHebDate
import Derived.Test.YthpdnlmjnfllcaaAwHeb
namespace Go.Proofs.Ythpdnlmjnfllcaa.Heb
open Go.RowKit

set_option maxHeartbeats 1000000 in
theorem dates_no (n : Int) (w : World) (h : Cal.dayB n = false) :
    Calls Try.prog 3 #[.int .i64 n] w fun e w' => e = .returned (.bool true) ∧ Gr w w' := by
  have H := Lib.hid h; clear h
  go_enter Try.func3, Try.ntmps3
  go_wp2_with fail
  refine (trystlaw06.awake_any _).mono ?_
  rintro e w1 ⟨rfl, hb1⟩
  go_wp2_with fail
  refine (date_no _ _ H.out).mono ?_
  rintro e w2 ⟨rfl, hb2⟩
  go_wp2_with fail
  refine (refdate_no _ _ H.out).mono ?_
  rintro e w3 ⟨rfl, hb3⟩
  obtain ⟨c0, c1, c2⟩ := box3 hb3
  have z3 := hb3.lt
  simp at z3
  have hb4 := (Gr.refl w3).alloc #[.int .i64 0, .int .i64 0, .int .i64 0] 24
  obtain ⟨e0, e1, e2⟩ := box_now w3 (.int .i64 0) (.int .i64 0) (.int .i64 0) 24
  have k0 := hb4.keeps (by omega) c0
  have k1 := hb4.keeps (by omega) c1
  have k2 := hb4.keeps (by omega) c2
  clear c0 c1 c2
  go_wp2
  go_ret
  exact ⟨rfl, (((hb1.trans hb2).alloc _ _).trans hb3).trans hb4⟩
set_option maxHeartbeats 1000000 in
theorem dates_yes (n : Int) (w : World) (h : Cal.dayB n = true) :
    Calls Try.prog 3 #[.int .i64 n] w fun e w' => e = .returned (.bool true) ∧ Gr w w' := by
  have H := Lib.hid h; clear h
  go_enter Try.func3, Try.ntmps3
  go_wp2_with fail
  refine (trystlaw06.awake_any _).mono ?_
  rintro e w1 ⟨rfl, hb1⟩
  go_wp2_with fail
  refine (date_yes _ _ H.out).mono ?_
  rintro e w2 ⟨rfl, hb2⟩
  go_wp2_with fail
  refine (refdate_yes _ _ H.out).mono ?_
  rintro e w3 ⟨rfl, hb3⟩
  generalize yr n = Y at *
  generalize mon n = M at *
  generalize dom n = D at *
  obtain ⟨c0, c1, c2⟩ := box3 hb3
  have z3 := hb3.lt
  simp at z3
  have hb4 := (Gr.refl w3).alloc #[.int .i64 Y, .int .i64 M, .int .i64 D] 24
  obtain ⟨e0, e1, e2⟩ := box_now w3 (.int .i64 Y) (.int .i64 M) (.int .i64 D) 24
  have k0 := hb4.keeps (by omega) c0
  have k1 := hb4.keeps (by omega) c1
  have k2 := hb4.keeps (by omega) c2
  clear c0 c1 c2
  go_wp2
  go_ret
  exact ⟨rfl, (((hb1.trans hb2).alloc _ _).trans hb3).trans hb4⟩
theorem dates_walk (n : Int) (w : World) :
    Calls Try.prog 3 #[.int .i64 n] w fun e w' => e = .returned (.bool true) ∧ Gr w w' := by
  cases h : Cal.dayB n
  · exact dates_no n w h
  · exact dates_yes n w h
end Go.Proofs.Ythpdnlmjnfllcaa.Heb
