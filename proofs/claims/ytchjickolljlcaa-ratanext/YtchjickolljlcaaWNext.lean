/- The law RataNext returns true. -/
import Derived.Test.YtchjickolljlcaaAwake
import Derived.Test.YtchjickolljlcaaCalNext
namespace Go.Proofs.Ytchjickolljlcaa
open Go.RowKit

set_option maxHeartbeats 1000000 in
theorem next_walk_out (n : Int) (w : World) (h : n < 1 ∨ 3652059 ≤ n) :
    Calls Try.prog 6 #[.int .i64 n] w fun e w' => e = .returned (.bool true) ∧ Gr w w' := by
  by_cases h1 : n < 1
  · clear h
    go_enter Try.func6, Try.ntmps6
    go_wp2_with fail
    refine (awake_any _).mono ?_
    rintro e w1 ⟨rfl, hb1⟩
    go_wp2_with fail
    refine (awake_any _).mono ?_
    rintro e w2 ⟨rfl, hb2⟩
    go_wp2
    go_ret
    exact ⟨rfl, hb1.trans hb2⟩
  · have h2 : 3652059 ≤ n := by omega
    have d1 : decide (n < 1) = false := by simp; omega
    clear h
    go_enter Try.func6, Try.ntmps6
    go_wp2_with fail
    refine (awake_any _).mono ?_
    rintro e w1 ⟨rfl, hb1⟩
    go_wp2_with fail
    refine (awake_any _).mono ?_
    rintro e w2 ⟨rfl, hb2⟩
    go_wp2
    go_ret
    exact ⟨rfl, hb1.trans hb2⟩

set_option maxHeartbeats 1000000 in
theorem next_walk_in (n Y M D : Int) (w : World) (h1 : 1 ≤ n) (h2 : n < 3652059) (hY : Cal.yr (n + 1) = Y) (hM : Cal.mon (n + 1) = M) (hD : Cal.dom (n + 1) = D)
    (hu : (Cal.dom n < Cal.dim (Cal.yr n) (Cal.mon n) ∧ Y = Cal.yr n ∧ M = Cal.mon n ∧ D = Cal.dom n + 1) ∨
      (¬ Cal.dom n < Cal.dim (Cal.yr n) (Cal.mon n) ∧ Cal.mon n < 12 ∧ Y = Cal.yr n ∧ M = Cal.mon n + 1 ∧ D = 1) ∨
      (¬ Cal.dom n < Cal.dim (Cal.yr n) (Cal.mon n) ∧ ¬ Cal.mon n < 12 ∧ Y = Cal.yr n + 1 ∧ M = 1 ∧ D = 1)) :
    Calls Try.prog 6 #[.int .i64 n] w fun e w' => e = .returned (.bool true) ∧ Gr w w' := by
  have hn : Cal.dayB n = true := Cal.dayB_iff.2 (by omega)
  have hn' : Cal.dayB (n + 1) = true := Cal.dayB_iff.2 (by omega)
  have d1 : decide (n < 1) = false := by simp; omega
  have d2 : decide (3652059 ≤ n) = false := by simp; omega
  have so := Cal.okB_iff.1 (Cal.date_spec hn).1
  have sm := Cal.okB_month (Cal.date_spec hn).1
  have sd := (Cal.dim_bd (Cal.yr n) (Cal.mon n)).2
  obtain ⟨s1, s2, s3, s4⟩ := so
  obtain ⟨s5, s6⟩ := sm
  have HN := Lib.hid hn; have HN' := Lib.hid hn'; have HY := Lib.hid hY; have HM := Lib.hid hM; have HD := Lib.hid hD
  have HU := Lib.hid hu
  clear hn hn' hY hM hD hu
  have HW : Hid ((n % 7 + 1) % 7 = (n + 1) % 7) := by show _ = _; omega
  go_enter Try.func6, Try.ntmps6
  go_wp2_with fail
  refine (awake_any _).mono ?_
  rintro e w1 ⟨rfl, hb1⟩
  go_wp2_with fail
  refine (date_yes _ _ HN.out).mono ?_
  rintro e w2 ⟨rfl, hb2⟩
  go_wp2_with fail
  refine (date_yes _ _ HN'.out).mono ?_
  rintro e w3 ⟨rfl, hb3⟩
  obtain ⟨c0, c1, c2⟩ := box3 hb3
  have z3 := hb3.lt
  simp at z3
  rw [HY.out, HM.out, HD.out]
  go_wp2_with fail
  refine (weekday_any _ _).mono ?_
  rintro e w' ⟨rfl, rfl⟩
  go_wp2_with fail
  refine (weekday_any _ _).mono ?_
  rintro e w' ⟨rfl, rfl⟩
  rw [← HW.out]
  have hb4 := (Gr.refl w3).alloc #[.int .i64 Y, .int .i64 M, .int .i64 D] 23
  obtain ⟨e0, e1, e2⟩ := box_now w3 (.int .i64 Y) (.int .i64 M) (.int .i64 D) 23
  have k0 := hb4.keeps (by omega) c0
  have k1 := hb4.keeps (by omega) c1
  have k2 := hb4.keeps (by omega) c2
  clear c0 c1 c2
  generalize w3.alloc (.cells #[.int .i64 Y, .int .i64 M, .int .i64 D] 23) = w4 at *
  generalize w3.heap.size = b3 at *
  rcases HU.out with ⟨u1, u2, u3, u4⟩ | ⟨u1, u2, u3, u4, u5⟩ | ⟨u1, u2, u3, u4, u5⟩
  · subst u2 u3 u4
    go_wp2
    go_quiet ((go_at_call 21; exact qsame (length_any _ _ _)))
    go_wp2
    go_ret
    exact ⟨rfl, (((((hb1.trans hb2).alloc _ _).trans hb3).trans hb4).drewN _)⟩
  · have d3 : decide (Cal.dom n < Cal.dim (Cal.yr n) (Cal.mon n)) = false := by simpa using u1
    subst u3 u4 u5
    go_wp2
    go_quiet ((go_at_call 21; exact qsame (length_any _ _ _)))
    go_wp2
    go_ret
    exact ⟨rfl, (((((hb1.trans hb2).alloc _ _).trans hb3).trans hb4).drewN _)⟩
  · have d3 : decide (Cal.dom n < Cal.dim (Cal.yr n) (Cal.mon n)) = false := by simpa using u1
    have d4 : decide (Cal.mon n < 12) = false := by simpa using u2
    subst u3 u4 u5
    go_wp2
    go_quiet ((go_at_call 21; exact qsame (length_any _ _ _)))
    go_wp2
    go_ret
    exact ⟨rfl, (((((hb1.trans hb2).alloc _ _).trans hb3).trans hb4).drewN _)⟩

theorem next_walk (n : Int) (w : World) :
    Calls Try.prog 6 #[.int .i64 n] w fun e w' => e = .returned (.bool true) ∧ Gr w w' := by
  by_cases h : n < 1 ∨ 3652059 ≤ n
  · exact next_walk_out n w h
  · have hn : Cal.dayB n = true := Cal.dayB_iff.2 (by omega)
    have hn' : Cal.dayB (n + 1) = true := Cal.dayB_iff.2 (by omega)
    refine next_walk_in n _ _ _ w (by omega) (by omega) rfl rfl rfl ?_
    by_cases a : Cal.dom n < Cal.dim (Cal.yr n) (Cal.mon n)
    · exact Or.inl ⟨a, Cal.next_day hn a⟩
    · by_cases b : Cal.mon n < 12
      · exact Or.inr (Or.inl ⟨a, b, Cal.next_month hn (by omega) b⟩)
      · exact Or.inr (Or.inr ⟨a, b, Cal.next_year hn hn' (by omega) b⟩)
end Go.Proofs.Ytchjickolljlcaa
