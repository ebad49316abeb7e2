/- The texts Floor, MtIdx, one behind the other. -/
import Derived.Test.YtmbmkldcedkbmaaGreatZW
import Derived.Test.YtmbmkldcedkbmaaGreatZGc
import Derived.Test.YtmbmkldcedkbmaaGreatZRcLoad
import Derived.Test.YtmbmkldcedkbmaaGreatZO
namespace Go.Proofs.YtmbmkldcedkbmaaGreat
open Go.RowKit

theorem fq_facts (n : Int) {k : Int} (hk : 0 < k) : (n.tmod k < 0 ∧ n.tdiv k - 1 = n / k) ∨ (0 ≤ n.tmod k ∧ n.tdiv k = n / k) := by
  have e := Int.tmod_add_tdiv_mul n k
  rcases tdiv_facts n (b := k) (by omega) with ⟨a, b, _⟩ | ⟨a, b, _⟩
  · right; exact ⟨by omega, b⟩
  · left; exact ⟨by omega, b⟩
theorem fr_facts (n : Int) {k : Int} (hk : 0 < k) : -k < n.tmod k ∧ n.tmod k < k ∧ (n.tmod k < 0 → n.tmod k + k = n % k) ∧ (0 ≤ n.tmod k → n.tmod k = n % k) := by
  have g0 := Int.emod_nonneg n (b := k) (by omega)
  have g1 := Int.emod_lt_of_pos n (b := k) hk
  rcases tmod_cases n hk with h | h | h <;> omega
set_option maxHeartbeats 400000 in
theorem remainder_any (n k : Int) (w : World) (h1 : 0 < k) (h2 : k ≤ 2000000) :
    Calls Tryz.prog 72 #[.int .i64 n, .int .i64 k] w fun e w' => e = .returned (.int .i64 (n % k)) ∧ w = w' := by
  obtain ⟨c1, c2, c3, c4⟩ := fr_facts n h1
  by_cases h : n.tmod k < 0
  · have C := Lib.hid (c3 h); clear c3 c4
    go_enter Tryz.func72, Tryz.ntmps72
    go_wp2
    go_ret
    exact ⟨ret_int C.out, rfl⟩
  · have C := Lib.hid (c4 (by omega)); clear c3 c4
    have d : decide (n.tmod k < 0) = false := by simp; omega
    go_enter Tryz.func72, Tryz.ntmps72
    go_wp2
    go_ret
    exact ⟨ret_int C.out, rfl⟩
set_option maxHeartbeats 400000 in
theorem quotient_any (n k : Int) (w : World) (h1 : 0 < k) (h2 : k ≤ 2000000) (n1 : -100000000000 ≤ n) (n2 : n ≤ 100000000000) :
    Calls Tryz.prog 71 #[.int .i64 n, .int .i64 k] w fun e w' => e = .returned (.int .i64 (n / k)) ∧ w = w' := by
  have l := ediv_le_abs n (b := k) (by omega)
  rcases fq_facts n h1 with ⟨h, c⟩ | ⟨h, c⟩
  · have t1 : -100000000000 ≤ n.tdiv k := by omega
    have t2 : n.tdiv k ≤ 100000000001 := by omega
    have C := Lib.hid c; clear c l
    go_enter Tryz.func71, Tryz.ntmps71
    go_wp2
    go_ret
    exact ⟨ret_int C.out, rfl⟩
  · have t1 : -100000000000 ≤ n.tdiv k := by omega
    have t2 : n.tdiv k ≤ 100000000001 := by omega
    have C := Lib.hid c; clear c l
    have d : decide (n.tmod k < 0) = false := by simp; omega
    go_enter Tryz.func71, Tryz.ntmps71
    go_wp2
    go_ret
    exact ⟨ret_int C.out, rfl⟩
end Go.Proofs.YtmbmkldcedkbmaaGreat
namespace Go.Proofs.YtmbmkldcedkbmaaGreat
open Go.RowKit

theorem ret_two {a b c d : Int} (h : a = c) (h2 : b = d) : Ending.returned (.tuple #[.int .i64 a, .int .i64 b]) = .returned (.tuple #[.int .i64 c, .int .i64 d]) := by rw [h, h2]
theorem fm_head {r : Rm.Ru} (h : Rm.fm r = true) : (1 ≤ r.freq ∧ r.freq ≤ 4) ∧ (1 ≤ r.ivl ∧ r.ivl ≤ 1000) ∧ (0 ≤ r.st ∧ r.st ≤ 6) := by
  unfold Rm.fm Rm.fm1 at h
  simp only [Bool.and_eq_true, decide_eq_true_eq] at h
  omega
theorem fm_week {r : Rm.Ru} (h : Rm.fm r = true) : r.week ≠ [] → r.freq = 4 := by
  unfold Rm.fm Rm.fmX at h
  simp only [Bool.and_eq_true, Bool.or_eq_true, beq_iff_eq] at h
  intro hw
  rcases h.2.1.1.1 with h4 | h4
  · exact h4
  · exact absurd (List.isEmpty_iff.1 h4.2) hw
set_option maxRecDepth 100000 in
set_option maxHeartbeats 2000000 in
theorem indexof_any (V : Rm.Rv) (n : Int) (w : World) (hs : 0 ≤ V.r.st ∧ V.r.st ≤ 6) (h : Cal.dayB n = true) :
    Calls Tryz.prog 39 #[.agg V.val, .int .i64 n] w fun e w' => e = .returned (.int .i64 (Mc.idx V.r n)) ∧ Gr w w' := by
  obtain ⟨n1, n2⟩ := Cal.dayB_iff.1 h
  have yb := Cal.yr_bd n1 n2
  have mb : 1 ≤ Cal.mon n ∧ Cal.mon n ≤ 12 := Cal.mo_bd (Cal.yr n) (n - Cal.dby (Cal.yr n))
  obtain ⟨s0, s1⟩ := hs
  have hbx := RBx.now w V 27
  have hg0 : Gr w (w.alloc (.cells V.val 27)) := (Gr.refl w).allocO _
  have cQ := fun w' => quotient_any (n - V.r.st) 7 w' (by omega) (by omega) (by omega) (by omega)
  have HI : Hid (Mc.idx V.r n = if V.r.freq = 2 then (n - V.r.st) / 7 else if V.r.freq = 3 then Cal.yr n * 12 + Cal.mon n - 1 else if V.r.freq = 4 then Cal.yr n else n) := rfl
  have cD := fun w' => date_yes n w' h
  clear h
  obtain ⟨X, hX⟩ : ∃ X, Mc.idx V.r n = X := ⟨_, rfl⟩
  rw [hX] at HI ⊢
  clear hX
  generalize Cal.yr n = y at *
  generalize Cal.mon n = m at *
  generalize Cal.dom n = d at *
  go_enter Tryz.func39, Tryz.ntmps39
  go_wp2_with fail
  refine (cD _).mono ?_
  rintro e w1 ⟨rfl, hg1⟩
  have hb1 := hbx.gr hg1
  have hg := hg0.trans hg1
  clear hg0 hg1 hbx cD
  have e0 := hb1.c0
  have e7 := hb1.c7
  clear hb1
  generalize V.r.st = s at *
  generalize V.r.freq = f at *
  have hgA : Gr w1 (w1.alloc (.cells #[.int .i64 y, .int .i64 m, .int .i64 d] 85)) := (Gr.refl _).allocO _
  obtain ⟨k0, k1, k2⟩ := box_now w1 (.int .i64 y) (.int .i64 m) (.int .i64 d) 85
  have e0 := gr_cell hgA e0
  have e7 := gr_cell hgA e7
  have hg := hg.trans hgA
  by_cases f2 : f = 2
  · subst f2
    rw [if_pos rfl] at HI
    go_wp2_with (go_at_call 71; refine (cQ _).mono ?_; rintro e w2 ⟨rfl, rfl⟩)
    go_ret
    exact ⟨ret_int HI.out.symm, hg⟩
  have g2 : (f == 2) = false := beq_eq_false_iff_ne.2 f2
  rw [if_neg f2] at HI
  by_cases f3 : f = 3
  · subst f3
    rw [if_pos rfl] at HI
    go_wp2
    go_ret
    exact ⟨ret_int HI.out.symm, hg⟩
  have g3 : (f == 3) = false := beq_eq_false_iff_ne.2 f3
  rw [if_neg f3] at HI
  by_cases f4 : f = 4
  · subst f4
    rw [if_pos rfl] at HI
    go_wp2
    go_ret
    exact ⟨ret_int HI.out.symm, hg⟩
  have g4 : (f == 4) = false := beq_eq_false_iff_ne.2 f4
  rw [if_neg f4] at HI
  go_wp2
  go_ret
  exact ⟨ret_int HI.out.symm, hg⟩
theorem mos_first (y m : Int) (m1 : 1 ≤ m) (m2 : m ≤ 12) : Cal.okB y m 1 = true ↔ (1 ≤ y ∧ y ≤ 9999) := by
  have := Cal.dim_lo y m1 m2
  rw [Cal.okB_iff]; omega
theorem mos_last (y m : Int) (m1 : 1 ≤ m) (m2 : m ≤ 12) : Cal.okB y m (Cal.dim y m) = true ↔ (1 ≤ y ∧ y ≤ 9999) := by
  have := Cal.dim_lo y m1 m2
  rw [Cal.okB_iff]; omega
set_option maxRecDepth 100000 in
set_option maxHeartbeats 2000000 in
theorem months_any (y a c : Int) (w : World) (a1 : 1 ≤ a) (a2 : a ≤ 12) (c1 : 1 ≤ c) (c2 : c ≤ 12) :
    Calls Tryz.prog 73 #[.int .i64 y, .int .i64 a, .int .i64 c] w fun e w' => e = .returned (.tuple #[.int .i64 (Mc.mos y a c).1, .int .i64 (Mc.mos y a c).2]) ∧ Gr w w' := by
  have o1 := mos_first y a a1 a2
  have o2 := mos_last y c c1 c2
  by_cases hy : 1 ≤ y ∧ y ≤ 9999
  · have O1 := Lib.hid (o1.2 hy)
    have O2 := Lib.hid (o2.2 hy)
    have E1 : Hid (Cal.num y a 1 = (Mc.mos y a c).1) := Lib.hid (by unfold Mc.mos; rw [if_pos hy])
    have E2 : Hid (Cal.num y c (Cal.dim y c) = (Mc.mos y a c).2) := Lib.hid (by unfold Mc.mos; rw [if_pos hy])
    clear o1 o2
    go_enter Tryz.func73, Tryz.ntmps73
    go_wp2_with fail
    refine (day_yes _ _ _ _ O1.out).mono ?_
    rintro e w1 ⟨rfl, hg1⟩
    go_wp2_with fail
    refine (length_any _ _ _).mono ?_
    rintro e w' ⟨rfl, rfl⟩
    go_wp2_with fail
    refine (day_yes _ _ _ _ O2.out).mono ?_
    rintro e w2 ⟨rfl, hg2⟩
    go_wp2
    go_ret2
    exact ⟨ret_two E1.out E2.out, hg1.trans hg2⟩
  · have O1 : Hid (Cal.okB y a 1 = false) := Lib.hid (by rw [Bool.eq_false_iff]; exact fun h => hy (o1.1 h))
    have O2 : Hid (Cal.okB y c (Cal.dim y c) = false) := Lib.hid (by rw [Bool.eq_false_iff]; exact fun h => hy (o2.1 h))
    have E1 : Hid (0 = (Mc.mos y a c).1) := Lib.hid (by unfold Mc.mos; rw [if_neg hy])
    have E2 : Hid (0 = (Mc.mos y a c).2) := Lib.hid (by unfold Mc.mos; rw [if_neg hy])
    clear o1 o2 hy
    go_enter Tryz.func73, Tryz.ntmps73
    go_wp2_with fail
    refine (day_no _ _ _ _ O1.out).mono ?_
    rintro e w1 ⟨rfl, hg1⟩
    go_wp2_with fail
    refine (length_any _ _ _).mono ?_
    rintro e w' ⟨rfl, rfl⟩
    go_wp2_with fail
    refine (day_no _ _ _ _ O2.out).mono ?_
    rintro e w2 ⟨rfl, hg2⟩
    go_wp2
    go_ret2
    exact ⟨ret_two E1.out E2.out, hg1.trans hg2⟩
set_option maxRecDepth 100000 in
set_option maxHeartbeats 2000000 in
theorem bounds_any (V : Rm.Rv) (i : Int) (w : World) (hs : 0 ≤ V.r.st ∧ V.r.st ≤ 6) (i1 : -10000000 ≤ i) (i2 : i ≤ 10000000) :
    Calls Tryz.prog 38 #[.agg V.val, .int .i64 i] w fun e w' => e = .returned (.tuple #[.int .i64 (Mc.bnd V.r i).1, .int .i64 (Mc.bnd V.r i).2]) ∧ Gr w w' := by
  obtain ⟨s0, s1⟩ := hs
  have hbx := RBx.now w V 27
  have hg : Gr w (w.alloc (.cells V.val 27)) := (Gr.refl w).allocO _
  have cQ := fun w' => quotient_any i 12 w' (by omega) (by omega) (by omega) (by omega)
  have cR := fun w' => remainder_any i 12 w' (by omega) (by omega)
  have cM := fun w' => months_any (i / 12) (i % 12 + 1) (i % 12 + 1) w' (by omega) (by omega) (by omega) (by omega)
  have cY := fun w' => months_any i 1 12 w' (by omega) (by omega) (by omega) (by omega)
  have HI : Hid (Mc.bnd V.r i = if V.r.freq = 2 then (i * 7 + V.r.st, i * 7 + V.r.st + 7 - 1) else if V.r.freq = 3 then Mc.mos (i / 12) (i % 12 + 1) (i % 12 + 1) else if V.r.freq = 4 then Mc.mos i 1 12 else (i, i)) := rfl
  obtain ⟨X, hX⟩ : ∃ X, Mc.bnd V.r i = X := ⟨_, rfl⟩
  rw [hX] at HI ⊢
  clear hX
  have mr : 0 ≤ i % 12 ∧ i % 12 < 12 := by omega
  generalize Mc.mos (i / 12) (i % 12 + 1) (i % 12 + 1) = M1 at *
  generalize Mc.mos i 1 12 = M2 at *
  generalize i / 12 = iq at *
  generalize i % 12 = ir at *
  have e0 := hbx.c0
  have e7 := hbx.c7
  clear hbx
  go_enter Tryz.func38, Tryz.ntmps38
  go_upto_region 1 with fail
  generalize w.alloc (.cells V.val 27) = W at *
  generalize V.r.st = s at *
  generalize V.r.freq = f at *
  by_cases f2 : f = 2
  · subst f2
    rw [if_pos rfl] at HI
    go_wp2
    go_ret2
    exact ⟨ret_two (congrArg Prod.fst HI.out.symm) (congrArg Prod.snd HI.out.symm), hg⟩
  have g2 : (f == 2) = false := beq_eq_false_iff_ne.2 f2
  rw [if_neg f2] at HI
  by_cases f3 : f = 3
  · subst f3
    rw [if_pos rfl] at HI
    go_wp2_with (first | (go_at_call 71; refine (cQ _).mono ?_; rintro e w2 ⟨rfl, rfl⟩) | (go_at_call 72; refine (cR _).mono ?_; rintro e w2 ⟨rfl, rfl⟩) | (go_at_call 73; refine (cM _).mono ?_; rintro e w2 ⟨rfl, hg2⟩))
    go_ret2
    exact ⟨ret_two (congrArg Prod.fst HI.out.symm) (congrArg Prod.snd HI.out.symm), hg.trans hg2⟩
  have g3 : (f == 3) = false := beq_eq_false_iff_ne.2 f3
  rw [if_neg f3] at HI
  by_cases f4 : f = 4
  · subst f4
    rw [if_pos rfl] at HI
    go_wp2_with (go_at_call 73; refine (cY _).mono ?_; rintro e w2 ⟨rfl, hg2⟩)
    go_ret2
    exact ⟨ret_two (congrArg Prod.fst HI.out.symm) (congrArg Prod.snd HI.out.symm), hg.trans hg2⟩
  have g4 : (f == 4) = false := beq_eq_false_iff_ne.2 f4
  rw [if_neg f4] at HI
  go_wp2
  go_ret2
  exact ⟨ret_two (congrArg Prod.fst HI.out.symm) (congrArg Prod.snd HI.out.symm), hg⟩
end Go.Proofs.YtmbmkldcedkbmaaGreat
