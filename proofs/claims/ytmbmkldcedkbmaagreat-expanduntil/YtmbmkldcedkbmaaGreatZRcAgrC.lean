/- Ways through recur.agree (written by mkagree.py). -/
import Derived.Test.YtmbmkldcedkbmaaGreatZI
namespace Go.Proofs.YtmbmkldcedkbmaaGreat
open Go.RowKit

set_option maxRecDepth 100000 in
set_option maxHeartbeats 8000000 in
theorem agree_c (V : Rm.Rv) (w : World) (hM : RuM w w.heap.size V) (hn : V.day.n ≤ 40 ∧ V.yday.n ≤ 40 ∧ V.week.n ≤ 40 ∧ V.mday.n ≤ 40 ∧ V.pos.n ≤ 40) (h3 : V.r.freq = 3) (hy0 : V.yday.n = 0) (hw0 : V.week.n = 0) :
    Calls Tryz.prog 68 #[.agg V.val] w fun e w' => e = .returned (.bool (Rm.fmX V.r)) ∧ Gr w w' := by
  obtain ⟨hn, hny, hnw, hnm, hnp⟩ := hn
  have hbx := RBx.now w V 27
  have hg0 : Gr w (w.alloc (.cells V.val 27)) := (Gr.refl w).allocO _
  have cL := fun w' (h : Gr w w') => lists_any V w' (hM.gr h)
  have cN := fun w' (h : Gr w w') => ncont_any V.day.A V.day.n V.day.c V.r.day w' (hM.d.gr h) (by omega)
  have hey : V.r.yday.isEmpty = decide (V.yday.n = 0) := Rm.emp_n (hM.l 4 (by omega)).1
  have hew : V.r.week.isEmpty = decide (V.week.n = 0) := Rm.emp_n (hM.l 5 (by omega)).1
  have hem : V.r.mday.isEmpty = decide (V.mday.n = 0) := Rm.emp_n (hM.l 3 (by omega)).1
  have hep : V.r.pos.isEmpty = decide (V.pos.n = 0) := Rm.emp_n (hM.l 7 (by omega)).1
  have hls := @Rm.lsN_pos V.r
  obtain ⟨q, hq⟩ : ∃ q, Rm.fmX V.r = q := ⟨_, rfl⟩
  rw [hq]
  rw [Rm.fmX_eq, hey, hew, hem, hep] at hq
  rw [hep] at hls
  obtain ⟨L, hL⟩ : ∃ L, Rm.lsN V.r = L := ⟨_, rfl⟩
  rw [hL] at hls cL
  obtain ⟨d, hd⟩ : ∃ d, V.r.day.any (fun p => p.1 != 0) = d := ⟨_, rfl⟩
  rw [hd] at hq cN
  obtain ⟨E, hE⟩ : ∃ E, Rm.emp8 V.r = E := ⟨_, rfl⟩
  rw [hE] at hq hls
  obtain ⟨e0, e1, e2, e3, e4, e5, e6, e7, e8, e9, e10, e11, e12, e13, e14, e15, e16⟩ := hbx
  dsimp only [Rm.Rv.val] at *
  clear hM hL hd hE hey hew hem hep
  generalize V.r.freq = F at *
  obtain ⟨W, hW⟩ : ∃ W : World, W = w := ⟨_, rfl⟩
  clear hW W
  have HQ := Lib.hid hq
  have HL := Lib.hid hls
  clear hq hls
  have hs : ¬ (0 : Int) < (V.yday.n : Int) + (V.week.n : Int) := by omega
  subst h3
  by_cases hp : V.pos.n = 0
  · have hpp : ((V.pos.n : Int) == 0) = true := by simp [hp]
    have HE : Hid (q = true) := Lib.hid (by rw [← HQ.out]; simp [hy0, hw0, hp])
    clear hy0 hw0 hp
    go_enter Tryz.func68, Tryz.ntmps68
    go_upto_region 1 with fail
    generalize w.alloc (.cells _ 27) = W at *
    go_wp2_with (first | (go_at_call 99; refine (cN _ hg0).mono ?_; rintro e w1 ⟨rfl, hg1⟩; have hg0 := hg0.trans hg1; have e0 := gr_cell hg1 e0; have e1 := gr_cell hg1 e1; have e2 := gr_cell hg1 e2; have e3 := gr_cell hg1 e3; have e4 := gr_cell hg1 e4; have e5 := gr_cell hg1 e5; have e6 := gr_cell hg1 e6; have e7 := gr_cell hg1 e7; have e8 := gr_cell hg1 e8; have e9 := gr_cell hg1 e9; have e10 := gr_cell hg1 e10; have e11 := gr_cell hg1 e11; have e12 := gr_cell hg1 e12; have e13 := gr_cell hg1 e13; have e14 := gr_cell hg1 e14; have e15 := gr_cell hg1 e15; have e16 := gr_cell hg1 e16) | (go_at_call 101; refine (cL _ hg0).mono ?_; rintro e w2 ⟨rfl, hg2⟩; have hg0 := hg0.trans hg2))
    go_ret
    exact ⟨ret_bool HE.out.symm, hg0⟩
  · have hpp : ((V.pos.n : Int) == 0) = false := by rw [beq_eq_false_iff_ne]; omega
    have HL2 := HL.out (by simpa using hp)
    by_cases h1 : 1 < L
    · have hEE := HL2.1 h1
      have h1i : (1 : Int) < (L : Int) := by omega
      clear HL2
      have HE : Hid (q = true) := Lib.hid (by rw [← HQ.out]; simp [hy0, hw0, hp, hEE])
      clear hy0 hw0 hp hEE
      go_enter Tryz.func68, Tryz.ntmps68
      go_upto_region 1 with fail
      generalize w.alloc (.cells _ 27) = W at *
      go_wp2_with (first | (go_at_call 99; refine (cN _ hg0).mono ?_; rintro e w1 ⟨rfl, hg1⟩; have hg0 := hg0.trans hg1; have e0 := gr_cell hg1 e0; have e1 := gr_cell hg1 e1; have e2 := gr_cell hg1 e2; have e3 := gr_cell hg1 e3; have e4 := gr_cell hg1 e4; have e5 := gr_cell hg1 e5; have e6 := gr_cell hg1 e6; have e7 := gr_cell hg1 e7; have e8 := gr_cell hg1 e8; have e9 := gr_cell hg1 e9; have e10 := gr_cell hg1 e10; have e11 := gr_cell hg1 e11; have e12 := gr_cell hg1 e12; have e13 := gr_cell hg1 e13; have e14 := gr_cell hg1 e14; have e15 := gr_cell hg1 e15; have e16 := gr_cell hg1 e16) | (go_at_call 101; refine (cL _ hg0).mono ?_; rintro e w2 ⟨rfl, hg2⟩; have hg0 := hg0.trans hg2))
      go_ret
      exact ⟨ret_bool HE.out.symm, hg0⟩
    · have hEE : E = true := by
        cases h : E
        · exact absurd (HL2.2 h) h1
        · rfl
      have h1i : ¬ (1 : Int) < (L : Int) := by omega
      clear HL2
      have HE : Hid (q = false) := Lib.hid (by rw [← HQ.out]; simp [hy0, hw0, hp, hEE])
      clear hy0 hw0 hp hEE
      go_enter Tryz.func68, Tryz.ntmps68
      go_upto_region 1 with fail
      generalize w.alloc (.cells _ 27) = W at *
      go_wp2_with (first | (go_at_call 99; refine (cN _ hg0).mono ?_; rintro e w1 ⟨rfl, hg1⟩; have hg0 := hg0.trans hg1; have e0 := gr_cell hg1 e0; have e1 := gr_cell hg1 e1; have e2 := gr_cell hg1 e2; have e3 := gr_cell hg1 e3; have e4 := gr_cell hg1 e4; have e5 := gr_cell hg1 e5; have e6 := gr_cell hg1 e6; have e7 := gr_cell hg1 e7; have e8 := gr_cell hg1 e8; have e9 := gr_cell hg1 e9; have e10 := gr_cell hg1 e10; have e11 := gr_cell hg1 e11; have e12 := gr_cell hg1 e12; have e13 := gr_cell hg1 e13; have e14 := gr_cell hg1 e14; have e15 := gr_cell hg1 e15; have e16 := gr_cell hg1 e16) | (go_at_call 101; refine (cL _ hg0).mono ?_; rintro e w2 ⟨rfl, hg2⟩; have hg0 := hg0.trans hg2))
      go_ret
      exact ⟨ret_bool ((decide_eq_false (by omega)).trans HE.out.symm), hg0⟩
set_option maxRecDepth 100000 in
set_option maxHeartbeats 8000000 in
theorem agree_g (V : Rm.Rv) (w : World) (hM : RuM w w.heap.size V) (hn : V.day.n ≤ 40 ∧ V.yday.n ≤ 40 ∧ V.week.n ≤ 40 ∧ V.mday.n ≤ 40 ∧ V.pos.n ≤ 40) (h4 : V.r.freq ≠ 4) (hyw : ¬ (V.yday.n = 0 ∧ V.week.n = 0)) :
    Calls Tryz.prog 68 #[.agg V.val] w fun e w' => e = .returned (.bool (Rm.fmX V.r)) ∧ Gr w w' := by
  obtain ⟨hn, hny, hnw, hnm, hnp⟩ := hn
  have hbx := RBx.now w V 27
  have hg0 : Gr w (w.alloc (.cells V.val 27)) := (Gr.refl w).allocO _
  have cL := fun w' (h : Gr w w') => lists_any V w' (hM.gr h)
  have cN := fun w' (h : Gr w w') => ncont_any V.day.A V.day.n V.day.c V.r.day w' (hM.d.gr h) (by omega)
  have hey : V.r.yday.isEmpty = decide (V.yday.n = 0) := Rm.emp_n (hM.l 4 (by omega)).1
  have hew : V.r.week.isEmpty = decide (V.week.n = 0) := Rm.emp_n (hM.l 5 (by omega)).1
  have hem : V.r.mday.isEmpty = decide (V.mday.n = 0) := Rm.emp_n (hM.l 3 (by omega)).1
  have hep : V.r.pos.isEmpty = decide (V.pos.n = 0) := Rm.emp_n (hM.l 7 (by omega)).1
  have hls := @Rm.lsN_pos V.r
  obtain ⟨q, hq⟩ : ∃ q, Rm.fmX V.r = q := ⟨_, rfl⟩
  rw [hq]
  rw [Rm.fmX_eq, hey, hew, hem, hep] at hq
  rw [hep] at hls
  obtain ⟨L, hL⟩ : ∃ L, Rm.lsN V.r = L := ⟨_, rfl⟩
  rw [hL] at hls cL
  obtain ⟨d, hd⟩ : ∃ d, V.r.day.any (fun p => p.1 != 0) = d := ⟨_, rfl⟩
  rw [hd] at hq cN
  obtain ⟨E, hE⟩ : ∃ E, Rm.emp8 V.r = E := ⟨_, rfl⟩
  rw [hE] at hq hls
  obtain ⟨e0, e1, e2, e3, e4, e5, e6, e7, e8, e9, e10, e11, e12, e13, e14, e15, e16⟩ := hbx
  dsimp only [Rm.Rv.val] at *
  clear hM hL hd hE hey hew hem hep
  generalize V.r.freq = F at *
  obtain ⟨W, hW⟩ : ∃ W : World, W = w := ⟨_, rfl⟩
  clear hW W
  have HQ := Lib.hid hq
  have HL := Lib.hid hls
  clear hq hls
  have h4n : (F == 4) = false := by simpa using h4
  have h4m : (F != 4) = true := by simpa using h4
  have hs : (0 : Int) < (V.yday.n : Int) + (V.week.n : Int) := by omega
  have hyd : (decide (V.yday.n = 0) && decide (V.week.n = 0)) = false := by simpa using hyw
  have HE : Hid (q = false) := Lib.hid (by rw [← HQ.out]; simp [h4, hyd])
  go_enter Tryz.func68, Tryz.ntmps68
  go_upto_region 1 with fail
  generalize w.alloc (.cells _ 27) = W at *
  go_wp2_with (first | (go_at_call 99; refine (cN _ hg0).mono ?_; rintro e w1 ⟨rfl, hg1⟩; have hg0 := hg0.trans hg1; have e0 := gr_cell hg1 e0; have e1 := gr_cell hg1 e1; have e2 := gr_cell hg1 e2; have e3 := gr_cell hg1 e3; have e4 := gr_cell hg1 e4; have e5 := gr_cell hg1 e5; have e6 := gr_cell hg1 e6; have e7 := gr_cell hg1 e7; have e8 := gr_cell hg1 e8; have e9 := gr_cell hg1 e9; have e10 := gr_cell hg1 e10; have e11 := gr_cell hg1 e11; have e12 := gr_cell hg1 e12; have e13 := gr_cell hg1 e13; have e14 := gr_cell hg1 e14; have e15 := gr_cell hg1 e15; have e16 := gr_cell hg1 e16) | (go_at_call 101; refine (cL _ hg0).mono ?_; rintro e w2 ⟨rfl, hg2⟩; have hg0 := hg0.trans hg2))
  go_ret
  exact ⟨ret_bool HE.out.symm, hg0⟩
end Go.Proofs.YtmbmkldcedkbmaaGreat
