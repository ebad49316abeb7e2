/- The walk of ClockOf. -/
import Derived.Test.YtemnpnjobjeliaaDoorAwClk
import Derived.Test.YtemnpnjobjeliaaDoorRefGreg2
namespace Go.Proofs.YtemnpnjobjeliaaDoor
open Go.RowKit

set_option maxRecDepth 8000 in
set_option maxHeartbeats 2000000 in
theorem clockof_date (y m d hh mm ss s : Int) (w : World) (ht : Tab w) (h : Cal.okB y m d = false) :
    Calls Tryd.prog 4 #[.agg #[.int .i64 y, .int .i64 m, .int .i64 d], .agg #[.int .i64 hh, .int .i64 mm, .int .i64 ss], .int .i64 s] w fun e w' => e = .returned (.bool true) ∧ Gr w w' := by
  have H := Lib.hid h; clear h
  have g1 := ((Gr.refl w).alloc #[.int .i64 y, .int .i64 m, .int .i64 d] 24).alloc #[.int .i64 hh, .int .i64 mm, .int .i64 ss] 25
  have t1 := ht.keep g1
  have hz : ∀ o, (w.alloc o).heap.size = w.heap.size + 1 := fun o => by simp
  have hz2 : ∀ o p, ((w.alloc o).alloc p).heap.size = w.heap.size + 2 := fun o p => by simp
  go_enter Tryd.func4, Tryd.ntmps4
  go_wp2_with fail
  refine (awake_any _ t1).mono ?_
  rintro e w1 ⟨rfl, hb⟩
  obtain ⟨c0, c1, c2⟩ := box3 (((Gr.refl _).alloc _ _).trans hb)
  obtain ⟨p0, p1, p2⟩ := box3 hb
  rw [hz] at p0 p1 p2
  have z1 := hb.lt
  rw [hz2] at z1
  have G1 := Lib.hid (g1.trans hb)
  clear hb g1 t1 hz hz2
  go_wp2_with fail
  refine (cof_no _ _ _ _ _ _ _ (.inl H.out)).mono ?_
  rintro e w2 ⟨rfl, hb2⟩
  have k0 := hb2.keeps (by omega) c0; have k1 := hb2.keeps (by omega) c1; have k2 := hb2.keeps (by omega) c2
  have G2 := Lib.hid (G1.out.trans hb2)
  clear hb2 c0 c1 c2
  go_wp2_with fail
  refine (refday0_no _ _ _ _ H.out).mono ?_
  rintro e w3 ⟨rfl, hb3⟩
  go_wp2_with fail
  refine (cat_no _ _ _ (.inl rfl)).mono ?_
  rintro e w' ⟨rfl, rfl⟩
  go_wp2
  go_ret
  exact ⟨rfl, G2.out.trans hb3⟩
set_option maxRecDepth 8000 in
set_option maxHeartbeats 8000000 in
theorem clockof_yy (y m d hh mm ss s : Int) (w : World) (ht : Tab w) (h : Cal.okB y m d = true) (hq : Clk.timB hh mm ss = true) (hs : Clk.secB s = true) :
    Calls Tryd.prog 4 #[.agg #[.int .i64 y, .int .i64 m, .int .i64 d], .agg #[.int .i64 hh, .int .i64 mm, .int .i64 ss], .int .i64 s] w fun e w' => e = .returned (.bool true) ∧ Gr w w' := by
  have nb := Cal.num_bd h
  have dB := Lib.hid (Cal.dayB_iff.2 nb)
  obtain ⟨x1, x2, x3, x4, x5, x6⟩ := Clk.timB_iff.1 hq
  have u1 : decide (0 ≤ hh) = true := by simp; omega
  have u2 : decide (hh < 24) = true := by simp; omega
  have u3 : decide (0 ≤ mm) = true := by simp; omega
  have u4 : decide (mm < 60) = true := by simp; omega
  have u5 : decide (0 ≤ ss) = true := by simp; omega
  have u6 : decide (ss < 60) = true := by simp; omega
  have HQ := Lib.hid hq; clear hq
  obtain ⟨s1, s2⟩ := Clk.secB_iff.1 hs
  have e1 : decide (0 ≤ s) = true := by simp; omega
  have e2 : decide (s < 86400) = true := by simp; omega
  have HS := Lib.hid hs; clear hs
  have H := Lib.hid h; clear h
  have g1 := ((Gr.refl w).alloc #[.int .i64 y, .int .i64 m, .int .i64 d] 24).alloc #[.int .i64 hh, .int .i64 mm, .int .i64 ss] 25
  have t1 := ht.keep g1
  have hz : ∀ o, (w.alloc o).heap.size = w.heap.size + 1 := fun o => by simp
  have hz2 : ∀ o p, ((w.alloc o).alloc p).heap.size = w.heap.size + 2 := fun o p => by simp

  all_goals
    go_enter Tryd.func4, Tryd.ntmps4
    go_wp2_with fail
    refine (awake_any _ t1).mono ?_
    rintro e w1 ⟨rfl, hb⟩
    obtain ⟨c0, c1, c2⟩ := box3 (((Gr.refl _).alloc _ _).trans hb)
    obtain ⟨p0, p1, p2⟩ := box3 hb
    rw [hz] at p0 p1 p2
    have z1 := hb.lt
    rw [hz2] at z1
    have G1 := Lib.hid (g1.trans hb)
    clear hb g1 t1 hz hz2
    go_wp2_with fail
    refine (cof_yes _ _ _ _ _ _ _ H.out HQ.out).mono ?_
    rintro e w2 ⟨rfl, hb2⟩
    have k0 := hb2.keeps (by omega) c0; have k1 := hb2.keeps (by omega) c1; have k2 := hb2.keeps (by omega) c2
    have q0 := hb2.keeps (by omega) p0; have q1 := hb2.keeps (by omega) p1; have q2 := hb2.keeps (by omega) p2
    have z2 := hb2.lt
    have G2 := Lib.hid (G1.out.trans hb2)
    clear hb2 c0 c1 c2 p0 p1 p2
    go_wp2_with fail
    refine (refday0_yes _ _ _ _ H.out).mono ?_
    rintro e w3 ⟨rfl, hb3⟩
    have r0 := hb3.keeps (by omega) q0; have r1 := hb3.keeps (by omega) q1; have r2 := hb3.keeps (by omega) q2
    have G3 := Lib.hid (G2.out.trans hb3)
    clear hb3 k0 k1 k2 q0 q1 q2
    go_wp2_with fail
    refine (cat_yes _ _ _ dB.out HS.out).mono ?_
    rintro e w' ⟨rfl, rfl⟩
    go_wp2
    go_ret
    exact ⟨ret_bool (by simp; omega), G3.out⟩
set_option maxRecDepth 8000 in
set_option maxHeartbeats 8000000 in
theorem clockof_yn (y m d hh mm ss s : Int) (w : World) (ht : Tab w) (h : Cal.okB y m d = true) (hq : Clk.timB hh mm ss = true) (hs : Clk.secB s = false) :
    Calls Tryd.prog 4 #[.agg #[.int .i64 y, .int .i64 m, .int .i64 d], .agg #[.int .i64 hh, .int .i64 mm, .int .i64 ss], .int .i64 s] w fun e w' => e = .returned (.bool true) ∧ Gr w w' := by
  have nb := Cal.num_bd h
  have dB := Lib.hid (Cal.dayB_iff.2 nb)
  obtain ⟨x1, x2, x3, x4, x5, x6⟩ := Clk.timB_iff.1 hq
  have u1 : decide (0 ≤ hh) = true := by simp; omega
  have u2 : decide (hh < 24) = true := by simp; omega
  have u3 : decide (0 ≤ mm) = true := by simp; omega
  have u4 : decide (mm < 60) = true := by simp; omega
  have u5 : decide (0 ≤ ss) = true := by simp; omega
  have u6 : decide (ss < 60) = true := by simp; omega
  have HQ := Lib.hid hq; clear hq
  have HS := Lib.hid hs
  have hs' : decide (0 ≤ s) = false ∨ (decide (0 ≤ s) = true ∧ decide (s < 86400) = false) := by
    have : ¬ (0 ≤ s ∧ s < 86400) := by rw [← Clk.secB_iff, hs]; simp
    simp only [decide_eq_false_iff_not, decide_eq_true_eq]; omega
  clear hs
  have H := Lib.hid h; clear h
  have g1 := ((Gr.refl w).alloc #[.int .i64 y, .int .i64 m, .int .i64 d] 24).alloc #[.int .i64 hh, .int .i64 mm, .int .i64 ss] 25
  have t1 := ht.keep g1
  have hz : ∀ o, (w.alloc o).heap.size = w.heap.size + 1 := fun o => by simp
  have hz2 : ∀ o p, ((w.alloc o).alloc p).heap.size = w.heap.size + 2 := fun o p => by simp
  rcases hs' with j1 | ⟨j1, j2⟩
  all_goals
    go_enter Tryd.func4, Tryd.ntmps4
    go_wp2_with fail
    refine (awake_any _ t1).mono ?_
    rintro e w1 ⟨rfl, hb⟩
    obtain ⟨c0, c1, c2⟩ := box3 (((Gr.refl _).alloc _ _).trans hb)
    obtain ⟨p0, p1, p2⟩ := box3 hb
    rw [hz] at p0 p1 p2
    have z1 := hb.lt
    rw [hz2] at z1
    have G1 := Lib.hid (g1.trans hb)
    clear hb g1 t1 hz hz2
    go_wp2_with fail
    refine (cof_yes _ _ _ _ _ _ _ H.out HQ.out).mono ?_
    rintro e w2 ⟨rfl, hb2⟩
    have k0 := hb2.keeps (by omega) c0; have k1 := hb2.keeps (by omega) c1; have k2 := hb2.keeps (by omega) c2
    have q0 := hb2.keeps (by omega) p0; have q1 := hb2.keeps (by omega) p1; have q2 := hb2.keeps (by omega) p2
    have z2 := hb2.lt
    have G2 := Lib.hid (G1.out.trans hb2)
    clear hb2 c0 c1 c2 p0 p1 p2
    go_wp2_with fail
    refine (refday0_yes _ _ _ _ H.out).mono ?_
    rintro e w3 ⟨rfl, hb3⟩
    have r0 := hb3.keeps (by omega) q0; have r1 := hb3.keeps (by omega) q1; have r2 := hb3.keeps (by omega) q2
    have G3 := Lib.hid (G2.out.trans hb3)
    clear hb3 k0 k1 k2 q0 q1 q2
    go_wp2_with fail
    refine (cat_no _ _ _ (.inr HS.out)).mono ?_
    rintro e w' ⟨rfl, rfl⟩
    go_wp2
    go_ret
    exact ⟨ret_bool (by simp; omega), G3.out⟩
set_option maxRecDepth 8000 in
set_option maxHeartbeats 8000000 in
theorem clockof_ny (y m d hh mm ss s : Int) (w : World) (ht : Tab w) (h : Cal.okB y m d = true) (hq : Clk.timB hh mm ss = false) (hs : Clk.secB s = true) :
    Calls Tryd.prog 4 #[.agg #[.int .i64 y, .int .i64 m, .int .i64 d], .agg #[.int .i64 hh, .int .i64 mm, .int .i64 ss], .int .i64 s] w fun e w' => e = .returned (.bool true) ∧ Gr w w' := by
  have nb := Cal.num_bd h
  have dB := Lib.hid (Cal.dayB_iff.2 nb)
  have HQ := Lib.hid hq
  have hq' : decide (0 ≤ hh) = false ∨ (decide (0 ≤ hh) = true ∧ decide (hh < 24) = false) ∨ (decide (0 ≤ hh) = true ∧ decide (hh < 24) = true ∧ decide (0 ≤ mm) = false) ∨ (decide (0 ≤ hh) = true ∧ decide (hh < 24) = true ∧ decide (0 ≤ mm) = true ∧ decide (mm < 60) = false) ∨ (decide (0 ≤ hh) = true ∧ decide (hh < 24) = true ∧ decide (0 ≤ mm) = true ∧ decide (mm < 60) = true ∧ decide (0 ≤ ss) = false) ∨ (decide (0 ≤ hh) = true ∧ decide (hh < 24) = true ∧ decide (0 ≤ mm) = true ∧ decide (mm < 60) = true ∧ decide (0 ≤ ss) = true ∧ decide (ss < 60) = false) := by
    have : ¬ (0 ≤ hh ∧ hh ≤ 23 ∧ 0 ≤ mm ∧ mm ≤ 59 ∧ 0 ≤ ss ∧ ss ≤ 59) := by rw [← Clk.timB_iff, hq]; simp
    simp only [decide_eq_false_iff_not, decide_eq_true_eq]; omega
  clear hq
  obtain ⟨s1, s2⟩ := Clk.secB_iff.1 hs
  have e1 : decide (0 ≤ s) = true := by simp; omega
  have e2 : decide (s < 86400) = true := by simp; omega
  have HS := Lib.hid hs; clear hs
  have H := Lib.hid h; clear h
  have g1 := ((Gr.refl w).alloc #[.int .i64 y, .int .i64 m, .int .i64 d] 24).alloc #[.int .i64 hh, .int .i64 mm, .int .i64 ss] 25
  have t1 := ht.keep g1
  have hz : ∀ o, (w.alloc o).heap.size = w.heap.size + 1 := fun o => by simp
  have hz2 : ∀ o p, ((w.alloc o).alloc p).heap.size = w.heap.size + 2 := fun o p => by simp
  rcases hq' with i1 | ⟨i1, i2⟩ | ⟨i1, i2, i3⟩ | ⟨i1, i2, i3, i4⟩ | ⟨i1, i2, i3, i4, i5⟩ | ⟨i1, i2, i3, i4, i5, i6⟩
  all_goals
    go_enter Tryd.func4, Tryd.ntmps4
    go_wp2_with fail
    refine (awake_any _ t1).mono ?_
    rintro e w1 ⟨rfl, hb⟩
    obtain ⟨c0, c1, c2⟩ := box3 (((Gr.refl _).alloc _ _).trans hb)
    obtain ⟨p0, p1, p2⟩ := box3 hb
    rw [hz] at p0 p1 p2
    have z1 := hb.lt
    rw [hz2] at z1
    have G1 := Lib.hid (g1.trans hb)
    clear hb g1 t1 hz hz2
    go_wp2_with fail
    refine (cof_no _ _ _ _ _ _ _ (.inr HQ.out)).mono ?_
    rintro e w2 ⟨rfl, hb2⟩
    have k0 := hb2.keeps (by omega) c0; have k1 := hb2.keeps (by omega) c1; have k2 := hb2.keeps (by omega) c2
    have q0 := hb2.keeps (by omega) p0; have q1 := hb2.keeps (by omega) p1; have q2 := hb2.keeps (by omega) p2
    have z2 := hb2.lt
    have G2 := Lib.hid (G1.out.trans hb2)
    clear hb2 c0 c1 c2 p0 p1 p2
    go_wp2_with fail
    refine (refday0_yes _ _ _ _ H.out).mono ?_
    rintro e w3 ⟨rfl, hb3⟩
    have r0 := hb3.keeps (by omega) q0; have r1 := hb3.keeps (by omega) q1; have r2 := hb3.keeps (by omega) q2
    have G3 := Lib.hid (G2.out.trans hb3)
    clear hb3 k0 k1 k2 q0 q1 q2
    go_wp2_with fail
    refine (cat_yes _ _ _ dB.out HS.out).mono ?_
    rintro e w' ⟨rfl, rfl⟩
    go_wp2
    go_ret
    exact ⟨rfl, G3.out⟩
set_option maxRecDepth 8000 in
set_option maxHeartbeats 8000000 in
theorem clockof_nn (y m d hh mm ss s : Int) (w : World) (ht : Tab w) (h : Cal.okB y m d = true) (hq : Clk.timB hh mm ss = false) (hs : Clk.secB s = false) :
    Calls Tryd.prog 4 #[.agg #[.int .i64 y, .int .i64 m, .int .i64 d], .agg #[.int .i64 hh, .int .i64 mm, .int .i64 ss], .int .i64 s] w fun e w' => e = .returned (.bool true) ∧ Gr w w' := by
  have nb := Cal.num_bd h
  have dB := Lib.hid (Cal.dayB_iff.2 nb)
  have HQ := Lib.hid hq
  have hq' : decide (0 ≤ hh) = false ∨ (decide (0 ≤ hh) = true ∧ decide (hh < 24) = false) ∨ (decide (0 ≤ hh) = true ∧ decide (hh < 24) = true ∧ decide (0 ≤ mm) = false) ∨ (decide (0 ≤ hh) = true ∧ decide (hh < 24) = true ∧ decide (0 ≤ mm) = true ∧ decide (mm < 60) = false) ∨ (decide (0 ≤ hh) = true ∧ decide (hh < 24) = true ∧ decide (0 ≤ mm) = true ∧ decide (mm < 60) = true ∧ decide (0 ≤ ss) = false) ∨ (decide (0 ≤ hh) = true ∧ decide (hh < 24) = true ∧ decide (0 ≤ mm) = true ∧ decide (mm < 60) = true ∧ decide (0 ≤ ss) = true ∧ decide (ss < 60) = false) := by
    have : ¬ (0 ≤ hh ∧ hh ≤ 23 ∧ 0 ≤ mm ∧ mm ≤ 59 ∧ 0 ≤ ss ∧ ss ≤ 59) := by rw [← Clk.timB_iff, hq]; simp
    simp only [decide_eq_false_iff_not, decide_eq_true_eq]; omega
  clear hq
  have HS := Lib.hid hs
  have hs' : decide (0 ≤ s) = false ∨ (decide (0 ≤ s) = true ∧ decide (s < 86400) = false) := by
    have : ¬ (0 ≤ s ∧ s < 86400) := by rw [← Clk.secB_iff, hs]; simp
    simp only [decide_eq_false_iff_not, decide_eq_true_eq]; omega
  clear hs
  have H := Lib.hid h; clear h
  have g1 := ((Gr.refl w).alloc #[.int .i64 y, .int .i64 m, .int .i64 d] 24).alloc #[.int .i64 hh, .int .i64 mm, .int .i64 ss] 25
  have t1 := ht.keep g1
  have hz : ∀ o, (w.alloc o).heap.size = w.heap.size + 1 := fun o => by simp
  have hz2 : ∀ o p, ((w.alloc o).alloc p).heap.size = w.heap.size + 2 := fun o p => by simp
  rcases hs' with j1 | ⟨j1, j2⟩ <;> rcases hq' with i1 | ⟨i1, i2⟩ | ⟨i1, i2, i3⟩ | ⟨i1, i2, i3, i4⟩ | ⟨i1, i2, i3, i4, i5⟩ | ⟨i1, i2, i3, i4, i5, i6⟩
  all_goals
    go_enter Tryd.func4, Tryd.ntmps4
    go_wp2_with fail
    refine (awake_any _ t1).mono ?_
    rintro e w1 ⟨rfl, hb⟩
    obtain ⟨c0, c1, c2⟩ := box3 (((Gr.refl _).alloc _ _).trans hb)
    obtain ⟨p0, p1, p2⟩ := box3 hb
    rw [hz] at p0 p1 p2
    have z1 := hb.lt
    rw [hz2] at z1
    have G1 := Lib.hid (g1.trans hb)
    clear hb g1 t1 hz hz2
    go_wp2_with fail
    refine (cof_no _ _ _ _ _ _ _ (.inr HQ.out)).mono ?_
    rintro e w2 ⟨rfl, hb2⟩
    have k0 := hb2.keeps (by omega) c0; have k1 := hb2.keeps (by omega) c1; have k2 := hb2.keeps (by omega) c2
    have q0 := hb2.keeps (by omega) p0; have q1 := hb2.keeps (by omega) p1; have q2 := hb2.keeps (by omega) p2
    have z2 := hb2.lt
    have G2 := Lib.hid (G1.out.trans hb2)
    clear hb2 c0 c1 c2 p0 p1 p2
    go_wp2_with fail
    refine (refday0_yes _ _ _ _ H.out).mono ?_
    rintro e w3 ⟨rfl, hb3⟩
    have r0 := hb3.keeps (by omega) q0; have r1 := hb3.keeps (by omega) q1; have r2 := hb3.keeps (by omega) q2
    have G3 := Lib.hid (G2.out.trans hb3)
    clear hb3 k0 k1 k2 q0 q1 q2
    go_wp2_with fail
    refine (cat_no _ _ _ (.inr HS.out)).mono ?_
    rintro e w' ⟨rfl, rfl⟩
    go_wp2
    go_ret
    exact ⟨rfl, G3.out⟩
theorem clockof_any (y m d hh mm ss s : Int) (w : World) (ht : Tab w) :
    Calls Tryd.prog 4 #[.agg #[.int .i64 y, .int .i64 m, .int .i64 d], .agg #[.int .i64 hh, .int .i64 mm, .int .i64 ss], .int .i64 s] w fun e w' => e = .returned (.bool true) ∧ Gr w w' := by
  rcases h : Cal.okB y m d
  · exact clockof_date _ _ _ _ _ _ _ _ ht h
  · rcases hq : Clk.timB hh mm ss
    · rcases hs : Clk.secB s
      · exact clockof_nn _ _ _ _ _ _ _ _ ht h hq hs
      · exact clockof_ny _ _ _ _ _ _ _ _ ht h hq hs
    · rcases hs : Clk.secB s
      · exact clockof_yn _ _ _ _ _ _ _ _ ht h hq hs
      · exact clockof_yy _ _ _ _ _ _ _ _ ht h hq hs
end Go.Proofs.YtemnpnjobjeliaaDoor
