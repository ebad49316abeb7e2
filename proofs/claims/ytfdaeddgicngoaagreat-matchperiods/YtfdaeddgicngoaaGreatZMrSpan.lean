/- What the reference's Span (layer 14) returns (written by mkmrspan.py). -/
import Derived.Test.YtfdaeddgicngoaaGreatZMrPer
namespace Go.Proofs.YtfdaeddgicngoaaGreat
open Go.RowKit

set_option maxRecDepth 100000 in
set_option maxHeartbeats 4000000 in
theorem rspan_any (V : Rm.Rv) (b k : Int) (w : World) (hs : 0 ≤ V.r.st ∧ V.r.st ≤ 6) (hb : Cal.dayB b = true) (x1 : -4000000 ≤ k) (x2 : k ≤ 4000000) :
    Calls Tryz.prog 14 #[.agg V.val, .int .i64 b, .int .i64 k] w fun r w' => r = .returned (.tuple #[.int .i64 (Mc.span V.r b k).1, .int .i64 (Mc.span V.r b k).2]) ∧ Gr w w' := by
  obtain ⟨s0, s1⟩ := hs
  obtain ⟨b1, b2⟩ := Cal.dayB_iff.1 hb
  have yb := Cal.yr_bd b1 b2
  have mb : 1 ≤ Cal.mon b ∧ Cal.mon b ≤ 12 := Cal.mo_bd (Cal.yr b) (b - Cal.dby (Cal.yr b))
  have hg : Gr w (w.alloc (.cells V.val 27)) := (Gr.refl w).allocO _
  have hbx := RBx.now w V 27
  have e0 := hbx.c0
  have e7 := hbx.c7
  have cB := fun w' => rdate14_any b w' hb
  have HI : Hid (Mc.span V.r b k = if max (Mc.sp0 V.r b k).1 1 ≤ min (Mc.sp0 V.r b k).2 3652059 then (max (Mc.sp0 V.r b k).1 1, min (Mc.sp0 V.r b k).2 3652059) else (0, -1)) := rfl
  have HS : Hid (Mc.sp0 V.r b k = if V.r.freq = 1 then (b + k, b + k) else if V.r.freq = 2 then (Mc.beg b V.r.st + 7 * k, Mc.beg b V.r.st + 7 * k + 6)
    else if V.r.freq = 3 then (if 1 ≤ (12 * Cal.yr b + Cal.mon b - 1 + k) / 12 ∧ (12 * Cal.yr b + Cal.mon b - 1 + k) / 12 ≤ 9999 then
      (Cal.num ((12 * Cal.yr b + Cal.mon b - 1 + k) / 12) ((12 * Cal.yr b + Cal.mon b - 1 + k) % 12 + 1) 1, Cal.num ((12 * Cal.yr b + Cal.mon b - 1 + k) / 12) ((12 * Cal.yr b + Cal.mon b - 1 + k) % 12 + 1) 1 + Cal.dim ((12 * Cal.yr b + Cal.mon b - 1 + k) / 12) ((12 * Cal.yr b + Cal.mon b - 1 + k) % 12 + 1) - 1) else (0, -1))
    else (if 1 ≤ Cal.yr b + k ∧ Cal.yr b + k ≤ 9999 then (Cal.dby (Cal.yr b + k) + 1, Cal.dby (Cal.yr b + k + 1)) else (0, -1))) := rfl
  obtain ⟨q, hq⟩ : ∃ q, Mc.span V.r b k = q := ⟨_, rfl⟩
  rw [hq] at HI ⊢
  generalize Mc.sp0 V.r b k = sp at *
  have m4 := Mc.beg_bd b V.r.st
  clear hq hbx hb
  generalize Cal.dom b = db at *
  go_enter Tryz.func14, Tryz.ntmps14
  go_wp2_with fail
  refine (cB _).mono ?_
  rintro e w1 ⟨rfl, hg1⟩
  have hgA : Gr w1 (w1.alloc (.cells #[.int .i64 (Cal.yr b), .int .i64 (Cal.mon b), .int .i64 db] 50)) := (Gr.refl w1).allocO _
  have e0 := gr_cell (hg1.trans hgA) e0
  have e7 := gr_cell (hg1.trans hgA) e7
  obtain ⟨k0, k1, k2⟩ := box_now w1 (.int .i64 (Cal.yr b)) (.int .i64 (Cal.mon b)) (.int .i64 db) 50
  have hg := (hg.trans hg1).trans hgA
  clear hg1 hgA cB k2
  go_upto_region 3 with fail
  generalize w1.alloc (.cells #[.int .i64 (Cal.yr b), .int .i64 (Cal.mon b), .int .i64 db] 50) = W at *
  generalize Cal.yr b = y at *
  generalize Cal.mon b = m at *
  by_cases f1 : V.r.freq = 1
  · rw [f1] at e0
    rw [if_pos f1] at HS
    clear e7 k0 k1 f1
    go_upto_region 18 with fail
    by_cases hc : max (b + k) 1 ≤ min (b + k) 3652059
    · as_aux_lemma =>
      have HE : Hid (q = (max (b + k) 1, min (b + k) 3652059)) := Lib.hid (by rw [HI.out, HS.out]; exact if_pos hc)
      clear HI HS
      go_wp2
      go_ret2
      exact ⟨ret_two (congrArg Prod.fst HE.out.symm) (congrArg Prod.snd HE.out.symm), hg⟩
    · as_aux_lemma =>
      have HE : Hid (q = (0, -1)) := Lib.hid (by rw [HI.out, HS.out]; exact if_neg hc)
      have hd : min (b + k) 3652059 < max (b + k) 1 := by omega
      clear HI HS hc
      go_wp2
      go_ret2
      exact ⟨ret_two (congrArg Prod.fst HE.out.symm) (congrArg Prod.snd HE.out.symm), hg⟩
  have g1 : (V.r.freq == 1) = false := beq_eq_false_iff_ne.2 f1
  rw [if_neg f1] at HS
  by_cases f2 : V.r.freq = 2
  · rw [f2] at e0
    rw [if_pos f2] at HS
    clear k0 k1 f1 f2 g1
    have cG := fun w' => rbegin_any b V.r.st w' s0 s1 (by omega) (by omega)
    generalize V.r.st = s at *
    generalize Mc.beg b s = z at *
    go_upto_region 18 with (go_at_call 33; refine (cG _).mono ?_; rintro e w' ⟨rfl, rfl⟩)
    by_cases hc : max (z + 7 * k) 1 ≤ min (z + 7 * k + 6) 3652059
    · as_aux_lemma =>
      have HE : Hid (q = (max (z + 7 * k) 1, min (z + 7 * k + 6) 3652059)) := Lib.hid (by rw [HI.out, HS.out]; exact if_pos hc)
      clear HI HS
      go_wp2
      go_ret2
      exact ⟨ret_two (congrArg Prod.fst HE.out.symm) (congrArg Prod.snd HE.out.symm), hg⟩
    · as_aux_lemma =>
      have HE : Hid (q = (0, -1)) := Lib.hid (by rw [HI.out, HS.out]; exact if_neg hc)
      have hd : min (z + 7 * k + 6) 3652059 < max (z + 7 * k) 1 := by omega
      clear HI HS hc
      go_wp2
      go_ret2
      exact ⟨ret_two (congrArg Prod.fst HE.out.symm) (congrArg Prod.snd HE.out.symm), hg⟩
  have g2 : (V.r.freq == 2) = false := beq_eq_false_iff_ne.2 f2
  rw [if_neg f2] at HS
  by_cases f3 : V.r.freq = 3
  · rw [f3] at e0
    rw [if_pos f3] at HS
    clear f1 f2 f3 g1 g2 e7 m4
    have cF := fun w' => floor_any (12 * y + m - 1 + k) 12 w' (by omega) (by omega) (by omega)
    have cR := fun w' => mod_any (12 * y + m - 1 + k) 12 w' (by omega) (by omega) (by omega) (by omega)
    have ib : 0 ≤ (12 * y + m - 1 + k) % 12 ∧ (12 * y + m - 1 + k) % 12 < 12 := by omega
    have ic : -10000000 ≤ (12 * y + m - 1 + k) / 12 ∧ (12 * y + m - 1 + k) / 12 ≤ 10000000 := by omega
    by_cases hy : 1 ≤ (12 * y + m - 1 + k) / 12 ∧ (12 * y + m - 1 + k) / 12 ≤ 9999
    · rw [if_pos hy] at HS
      have cX := fun w' => fixed0_any ((12 * y + m - 1 + k) / 12) ((12 * y + m - 1 + k) % 12 + 1) 1 w' (by omega) (by omega) (by omega) (by omega) (by omega) (by omega)
      have cL := fun w' => reflength0 ((12 * y + m - 1 + k) / 12) ((12 * y + m - 1 + k) % 12 + 1) (by omega) (by omega) w'
      have db1 := Cal.dim_bd ((12 * y + m - 1 + k) / 12) ((12 * y + m - 1 + k) % 12 + 1)
      have nb := num_bdw (y := (12 * y + m - 1 + k) / 12) (m := (12 * y + m - 1 + k) % 12 + 1) (d := 1) (by omega) (by omega) (by omega) (by omega) (by omega) (by omega)
      generalize Cal.num ((12 * y + m - 1 + k) / 12) ((12 * y + m - 1 + k) % 12 + 1) 1 = z1 at *
      generalize Cal.dim ((12 * y + m - 1 + k) / 12) ((12 * y + m - 1 + k) % 12 + 1) = z2 at *
      generalize (12 * y + m - 1 + k) / 12 = iq at *
      generalize (12 * y + m - 1 + k) % 12 = ir at *
      go_upto_region 18 with (first | (go_at_call 34; refine (cF _).mono ?_; rintro e w' ⟨rfl, rfl⟩) | (go_at_call 35; refine (cR _).mono ?_; rintro e w' ⟨rfl, rfl⟩) | (go_at_call 21; refine (cX _).mono ?_; rintro e w' ⟨rfl, rfl⟩) | (go_at_call 26; refine (cL _).mono ?_; rintro e w' ⟨rfl, rfl⟩))
      by_cases hc : max (z1) 1 ≤ min (z1 + z2 - 1) 3652059
      · as_aux_lemma =>
        have HE : Hid (q = (max (z1) 1, min (z1 + z2 - 1) 3652059)) := Lib.hid (by rw [HI.out, HS.out]; exact if_pos hc)
        clear HI HS
        go_wp2
        go_ret2
        exact ⟨ret_two (congrArg Prod.fst HE.out.symm) (congrArg Prod.snd HE.out.symm), hg⟩
      · as_aux_lemma =>
        have HE : Hid (q = (0, -1)) := Lib.hid (by rw [HI.out, HS.out]; exact if_neg hc)
        have hd : min (z1 + z2 - 1) 3652059 < max (z1) 1 := by omega
        clear HI HS hc
        go_wp2
        go_ret2
        exact ⟨ret_two (congrArg Prod.fst HE.out.symm) (congrArg Prod.snd HE.out.symm), hg⟩
    · rw [if_neg hy] at HS
      have hy2 : (12 * y + m - 1 + k) / 12 < 1 ∨ 9999 < (12 * y + m - 1 + k) / 12 := by omega
      clear hy
      generalize (12 * y + m - 1 + k) / 12 = iq at *
      generalize (12 * y + m - 1 + k) % 12 = ir at *
      have HE : Hid (q = (0, -1)) := Lib.hid (by rw [HI.out, HS.out]; exact if_neg (by decide))
      clear HI HS
      rcases hy2 with hy2 | hy2
      · as_aux_lemma =>
        have h3 : decide (1 ≤ iq) = false := by simp; omega
        go_wp2_with (first | (go_at_call 34; refine (cF _).mono ?_; rintro e w' ⟨rfl, rfl⟩) | (go_at_call 35; refine (cR _).mono ?_; rintro e w' ⟨rfl, rfl⟩))
        go_ret2
        exact ⟨ret_two (congrArg Prod.fst HE.out.symm) (congrArg Prod.snd HE.out.symm), hg⟩
      · as_aux_lemma =>
        have h3 : decide (iq ≤ 9999) = false := by simp; omega
        go_wp2_with (first | (go_at_call 34; refine (cF _).mono ?_; rintro e w' ⟨rfl, rfl⟩) | (go_at_call 35; refine (cR _).mono ?_; rintro e w' ⟨rfl, rfl⟩))
        go_ret2
        exact ⟨ret_two (congrArg Prod.fst HE.out.symm) (congrArg Prod.snd HE.out.symm), hg⟩
  have g3 : (V.r.freq == 3) = false := beq_eq_false_iff_ne.2 f3
  rw [if_neg f3] at HS
  generalize V.r.freq = f at *
  clear f1 f2 f3 e7 k1 m4
  by_cases hy : 1 ≤ y + k ∧ y + k ≤ 9999
  · rw [if_pos hy] at HS
    have j1 := Mc.num_jan (y + k)
    have j2 := Mc.num_jan (y + k + 1)
    have db1 := Cal.dby_bdw (a := y + k) (by omega) (by omega)
    have db2 := Cal.dby_bdw (a := y + k + 1) (by omega) (by omega)
    have J1 := Lib.hid j1
    have J2 := Lib.hid j2
    clear j1 j2
    generalize Cal.dby (y + k + 1) = z2 at *
    generalize Cal.dby (y + k) = z1 at *
    go_upto_region 18 with (go_at_call 21; refine (fixed0_any _ _ _ _ (by omega) (by omega) (by omega) (by omega) (by omega) (by omega)).mono ?_; rintro e w' ⟨rfl, rfl⟩; first | rw [J1.out] | rw [J2.out])
    by_cases hc : max (z1 + 1) 1 ≤ min (z2) 3652059
    · as_aux_lemma =>
      have HE : Hid (q = (max (z1 + 1) 1, min (z2) 3652059)) := Lib.hid (by rw [HI.out, HS.out]; exact if_pos hc)
      clear HI HS
      go_wp2
      go_ret2
      exact ⟨ret_two (congrArg Prod.fst HE.out.symm) (congrArg Prod.snd HE.out.symm), hg⟩
    · as_aux_lemma =>
      have HE : Hid (q = (0, -1)) := Lib.hid (by rw [HI.out, HS.out]; exact if_neg hc)
      have hd : min (z2) 3652059 < max (z1 + 1) 1 := by omega
      clear HI HS hc
      go_wp2
      go_ret2
      exact ⟨ret_two (congrArg Prod.fst HE.out.symm) (congrArg Prod.snd HE.out.symm), hg⟩
  · rw [if_neg hy] at HS
    have hy2 : y + k < 1 ∨ 9999 < y + k := by omega
    clear hy
    have HE : Hid (q = (0, -1)) := Lib.hid (by rw [HI.out, HS.out]; exact if_neg (by decide))
    clear HI HS
    rcases hy2 with hy2 | hy2
    · as_aux_lemma =>
      have h3 : decide (1 ≤ y + k) = false := by simp; omega
      go_wp2
      go_ret2
      exact ⟨ret_two (congrArg Prod.fst HE.out.symm) (congrArg Prod.snd HE.out.symm), hg⟩
    · as_aux_lemma =>
      have h3 : decide (y + k ≤ 9999) = false := by simp; omega
      go_wp2
      go_ret2
      exact ⟨ret_two (congrArg Prod.fst HE.out.symm) (congrArg Prod.snd HE.out.symm), hg⟩
end Go.Proofs.YtfdaeddgicngoaaGreat
