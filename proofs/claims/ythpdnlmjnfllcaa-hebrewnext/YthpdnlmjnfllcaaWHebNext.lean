/- The law HebrewNext returns true. -/
import Derived.Test.YthpdnlmjnfllcaaRefTHeb
import Derived.Test.YthpdnlmjnfllcaaHebDate
import Derived.Test.YthpdnlmjnfllcaaAwHeb
namespace Go.Proofs.Ythpdnlmjnfllcaa.Heb
open Go.RowKit

set_option maxHeartbeats 1000000 in
theorem next_walk_out (n : Int) (w : World) (h : n < 1 ∨ 3652059 ≤ n) :
    Calls Try.prog 6 #[.int .i64 n] w fun e w' => e = .returned (.bool true) ∧ Gr w w' := by
  by_cases h1 : n < 1
  · clear h
    go_enter Try.func6, Try.ntmps6
    go_wp2_with fail
    refine (trystlaw06.awake_any _).mono ?_
    rintro e w1 ⟨rfl, hb1⟩
    go_wp2_with fail
    refine (trystlaw06.awake_any _).mono ?_
    rintro e w2 ⟨rfl, hb2⟩
    go_wp2
    go_ret
    exact ⟨rfl, hb1.trans hb2⟩
  · have h2 : 3652059 ≤ n := by omega
    have d1 : decide (n < 1) = false := by simp; omega
    clear h
    go_enter Try.func6, Try.ntmps6
    go_wp2_with fail
    refine (trystlaw06.awake_any _).mono ?_
    rintro e w1 ⟨rfl, hb1⟩
    go_wp2_with fail
    refine (trystlaw06.awake_any _).mono ?_
    rintro e w2 ⟨rfl, hb2⟩
    go_wp2
    go_ret
    exact ⟨rfl, hb1.trans hb2⟩

set_option maxHeartbeats 1000000 in
theorem next_walk_in (n Y M D : Int) (w : World) (h1 : 1 ≤ n) (h2 : n < 3652059) (hY : yr (n + 1) = Y) (hM : mon (n + 1) = M) (hD : dom (n + 1) = D)
    (hu : (Y = yr n ∧ M = mon n ∧ D = dom n + 1) ∨ (¬ (Y = yr n ∧ M = mon n) ∧ D = 1 ∧ dom n = len (yr n) (mon n))) :
    Calls Try.prog 6 #[.int .i64 n] w fun e w' => e = .returned (.bool true) ∧ Gr w w' := by
  have hn : Cal.dayB n = true := Cal.dayB_iff.2 (by omega)
  have hn' : Cal.dayB (n + 1) = true := Cal.dayB_iff.2 (by omega)
  have d1 : decide (n < 1) = false := by simp; omega
  have d2 : decide (3652059 ≤ n) = false := by simp; omega
  have so := (spec hn).1
  have yb := ok_year so
  obtain ⟨s1, s2, _, _⟩ := ok_iff.1 so
  have sm := len_month s1 s2
  have sd := (len_bd (yr n) (mon n)).2
  have HL := Lib.hid (reflength (yr n) (mon n) (by omega) (by omega))
  have HN := Lib.hid hn; have HN' := Lib.hid hn'; have HY := Lib.hid hY; have HM := Lib.hid hM; have HD := Lib.hid hD
  have HU := Lib.hid hu
  clear hn hn' hY hM hD hu so
  go_enter Try.func6, Try.ntmps6
  go_wp2_with fail
  refine (trystlaw06.awake_any _).mono ?_
  rintro e w1 ⟨rfl, hb1⟩
  go_wp2_with fail
  refine (date_yes _ _ HN.out).mono ?_
  rintro e w2 ⟨rfl, hb2⟩
  go_wp2_with fail
  refine (date_yes _ _ HN'.out).mono ?_
  rintro e w3 ⟨rfl, hb3⟩
  obtain ⟨c0, c1, c2⟩ := box3 hb3
  have z3 := hb3.lt
  simp at z3
  rw [HY.out, HM.out, HD.out]
  have hb4 := (Gr.refl w3).alloc #[.int .i64 Y, .int .i64 M, .int .i64 D] 24
  obtain ⟨e0, e1, e2⟩ := box_now w3 (.int .i64 Y) (.int .i64 M) (.int .i64 D) 24
  have k0 := hb4.keeps (by omega) c0
  have k1 := hb4.keeps (by omega) c1
  have k2 := hb4.keeps (by omega) c2
  clear c0 c1 c2
  rcases HU.out with ⟨u1, u2, u3⟩ | ⟨u1, u2, u3⟩
  · subst u1 u2 u3
    go_wp2_with fail
    generalize w3.alloc (.cells #[.int .i64 (yr n), .int .i64 (mon n), .int .i64 (dom n + 1)] 24) = w4 at *
    generalize w3.heap.size = b3 at *
    go_quiet ((go_at_call 15; exact qsame (HL.out.on _)))
    go_wp2
    go_ret
    exact ⟨rfl, ((((hb1.trans hb2).alloc _ _).trans hb3).trans hb4).drewN _⟩
  · subst u2
    by_cases hy : Y = yr n
    · subst hy
      have b1 : (mon n == M) = false := by simp; intro k; exact u1 ⟨rfl, k.symm⟩
      have b2 : (dom n == len (yr n) (mon n)) = true := by simpa using u3
      clear u1 u3
      go_wp2_with fail
      generalize w3.alloc (.cells #[.int .i64 (yr n), .int .i64 M, .int .i64 1] 24) = w4 at *
      generalize w3.heap.size = b3 at *
      go_quiet ((go_at_call 15; exact qsame (HL.out.on _)))
      go_wp2
      go_ret
      exact ⟨rfl, ((((hb1.trans hb2).alloc _ _).trans hb3).trans hb4).drewN _⟩
    · have b1 : (yr n == Y) = false := by simp; intro k; exact hy k.symm
      have b2 : (dom n == len (yr n) (mon n)) = true := by simpa using u3
      clear u1 u3 hy
      go_wp2_with fail
      generalize w3.alloc (.cells #[.int .i64 Y, .int .i64 M, .int .i64 1] 24) = w4 at *
      generalize w3.heap.size = b3 at *
      go_quiet ((go_at_call 15; exact qsame (HL.out.on _)))
      go_wp2
      go_ret
      exact ⟨rfl, ((((hb1.trans hb2).alloc _ _).trans hb3).trans hb4).drewN _⟩
theorem next_walk (n : Int) (w : World) :
    Calls Try.prog 6 #[.int .i64 n] w fun e w' => e = .returned (.bool true) ∧ Gr w w' := by
  by_cases h : n < 1 ∨ 3652059 ≤ n
  · exact next_walk_out n w h
  · have hn : Cal.dayB n = true := Cal.dayB_iff.2 (by omega)
    have hn' : Cal.dayB (n + 1) = true := Cal.dayB_iff.2 (by omega)
    exact next_walk_in n _ _ _ w (by omega) (by omega) rfl rfl rfl (next hn hn')
end Go.Proofs.Ythpdnlmjnfllcaa.Heb
