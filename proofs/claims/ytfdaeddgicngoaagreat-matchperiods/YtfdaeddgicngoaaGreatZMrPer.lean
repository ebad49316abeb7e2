/- What the reference's Period and Span (layer 14) return. -/
import Derived.Test.YtfdaeddgicngoaaGreatZGg
namespace Go.Proofs.YtfdaeddgicngoaaGreat
open Go.RowKit

set_option maxRecDepth 100000 in
set_option maxHeartbeats 4000000 in
theorem rper_any (V : Rm.Rv) (b n : Int) (w : World) (hs : 0 ≤ V.r.st ∧ V.r.st ≤ 6) (hb : Cal.dayB b = true) (h : Cal.dayB n = true) :
    Calls Tryz.prog 13 #[.agg V.val, .int .i64 b, .int .i64 n] w fun r w' => r = .returned (.int .i64 (Mc.per V.r b n)) ∧ Gr w w' := by
  obtain ⟨s0, s1⟩ := hs
  obtain ⟨n1, n2⟩ := Cal.dayB_iff.1 h
  obtain ⟨b1, b2⟩ := Cal.dayB_iff.1 hb
  have yb := Cal.yr_bd n1 n2
  have yb2 := Cal.yr_bd b1 b2
  have mb : 1 ≤ Cal.mon n ∧ Cal.mon n ≤ 12 := Cal.mo_bd (Cal.yr n) (n - Cal.dby (Cal.yr n))
  have mb2 : 1 ≤ Cal.mon b ∧ Cal.mon b ≤ 12 := Cal.mo_bd (Cal.yr b) (b - Cal.dby (Cal.yr b))
  have hg : Gr w (w.alloc (.cells V.val 27)) := (Gr.refl w).allocO _
  have hbx := RBx.now w V 27
  have e0 := hbx.c0
  have e7 := hbx.c7
  have cB := fun w' => rdate14_any b w' hb
  have cN := fun w' => rdate14_any n w' h
  have HI : Hid (Mc.per V.r b n = if V.r.freq = 1 then n - b else if V.r.freq = 2 then (Mc.beg n V.r.st - Mc.beg b V.r.st) / 7 else if V.r.freq = 3 then 12 * (Cal.yr n - Cal.yr b) + Cal.mon n - Cal.mon b else Cal.yr n - Cal.yr b) := rfl
  obtain ⟨q, hq⟩ : ∃ q, Mc.per V.r b n = q := ⟨_, rfl⟩
  rw [hq] at HI ⊢
  have m1 := Mc.beg_mod (n := n) s0 s1
  have m2 := Mc.beg_mod (n := b) s0 s1
  have m3 := Mc.beg_bd n V.r.st
  have m4 := Mc.beg_bd b V.r.st
  clear hq hbx hb h
  generalize Cal.dom n = dn at *
  generalize Cal.dom b = db at *
  go_enter Tryz.func13, Tryz.ntmps13
  go_wp2_with fail
  refine (cB _).mono ?_
  rintro e w1 ⟨rfl, hg1⟩
  go_wp2_with fail
  refine (cN _).mono ?_
  rintro e w2 ⟨rfl, hg2⟩
  have hg := (hg.trans hg1).trans hg2
  have e0 := gr_cell (hg1.trans hg2) e0
  have e7 := gr_cell (hg1.trans hg2) e7
  go_upto_region 2 with fail
  have hgA : Gr w2 (w2.alloc (.cells #[.int .i64 (Cal.yr b), .int .i64 (Cal.mon b), .int .i64 db] 50)) := (Gr.refl w2).allocO _
  have hgB : Gr (w2.alloc (.cells #[.int .i64 (Cal.yr b), .int .i64 (Cal.mon b), .int .i64 db] 50)) ((w2.alloc (.cells #[.int .i64 (Cal.yr b), .int .i64 (Cal.mon b), .int .i64 db] 50)).alloc (.cells #[.int .i64 (Cal.yr n), .int .i64 (Cal.mon n), .int .i64 dn] 50)) := (Gr.refl _).allocO _
  have hsz : (w2.alloc (.cells #[.int .i64 (Cal.yr b), .int .i64 (Cal.mon b), .int .i64 db] 50)).heap.size = w2.heap.size + 1 := by simp
  obtain ⟨k0, k1, k2⟩ := box3 hgB
  obtain ⟨j0, j1, j2⟩ := box_now (w2.alloc (.cells #[.int .i64 (Cal.yr b), .int .i64 (Cal.mon b), .int .i64 db] 50)) (.int .i64 (Cal.yr n)) (.int .i64 (Cal.mon n)) (.int .i64 dn) 50
  rw [hsz] at j0 j1 j2
  have e0 := gr_cell (hgA.trans hgB) e0
  have e7 := gr_cell (hgA.trans hgB) e7
  have hg := (hg.trans hgA).trans hgB
  clear hgA hgB hsz k2 j2 hg1 hg2 cB cN
  generalize (w2.alloc (.cells #[.int .i64 (Cal.yr b), .int .i64 (Cal.mon b), .int .i64 db] 50)).alloc (.cells #[.int .i64 (Cal.yr n), .int .i64 (Cal.mon n), .int .i64 dn] 50) = W at *
  have td : (Mc.beg n V.r.st - Mc.beg b V.r.st).tdiv 7 = (Mc.beg n V.r.st - Mc.beg b V.r.st) / 7 := Int.tdiv_eq_ediv_of_dvd (Int.dvd_of_emod_eq_zero (by omega))
  generalize V.r.freq = f at *
  by_cases f1 : f = 1
  · as_aux_lemma =>
    subst f1
    rw [if_pos rfl] at HI
    clear e7 k0 k1 j0 j1 td
    go_wp2
    go_ret
    exact ⟨ret_int HI.out.symm, hg⟩
  have g1 : (f == 1) = false := beq_eq_false_iff_ne.2 f1
  rw [if_neg f1] at HI
  by_cases f2 : f = 2
  · as_aux_lemma =>
    subst f2
    rw [if_pos rfl] at HI
    clear k0 k1 j0 j1
    have cG := fun x (x1 : -100000000 ≤ x) (x2 : x ≤ 100000000) w' => rbegin_any x V.r.st w' s0 s1 x1 x2
    generalize V.r.st = s at *
    have t1 : -10000000 ≤ (Mc.beg n s - Mc.beg b s) / 7 ∧ (Mc.beg n s - Mc.beg b s) / 7 ≤ 10000000 := by omega
    have t2 : -10000000 ≤ (Mc.beg n s - Mc.beg b s).tdiv 7 ∧ (Mc.beg n s - Mc.beg b s).tdiv 7 ≤ 10000000 := by rw [td]; exact t1
    have HT := Lib.hid td
    clear td
    go_wp2
    go_quiet (first | (go_at_call 33; exact qsame (cG _ (by omega) (by omega) _)))
    go_wp2
    go_ret
    exact ⟨ret_int (HT.out.trans HI.out.symm), hg.drewN _⟩
  have g2 : (f == 2) = false := beq_eq_false_iff_ne.2 f2
  rw [if_neg f2] at HI
  by_cases f3 : f = 3
  · as_aux_lemma =>
    subst f3
    rw [if_pos rfl] at HI
    clear e7 td
    go_wp2
    go_ret
    exact ⟨ret_int HI.out.symm, hg⟩
  have g3 : (f == 3) = false := beq_eq_false_iff_ne.2 f3
  rw [if_neg f3] at HI
  as_aux_lemma =>
    clear e7 td
    go_wp2
    go_ret
    exact ⟨ret_int HI.out.symm, hg⟩
end Go.Proofs.YtfdaeddgicngoaaGreat
