/- What match.likeBegin returns (layer 14). -/
import Derived.Test.YtmbmkldcedkbmaaGreatZMtWk
namespace Go.Proofs.YtmbmkldcedkbmaaGreat
open Go.RowKit

theorem emp_len {α : Type} {l : List α} {n : Nat} (h : l.length = n) : l.isEmpty = decide (n = 0) := by
  subst h
  cases l <;> simp
theorem ne_len {α : Type} {l : List α} {n : Nat} (h : l.length = n) : l ≠ [] ↔ n ≠ 0 := by
  subst h
  cases l <;> simp
set_option maxRecDepth 100000 in
set_option maxHeartbeats 4000000 in
theorem like_any (V : Rm.Rv) (b n : Int) (w : World) (hM : RuM w w.heap.size V) (hd : V.day.n ≤ 140737488355328) (hn : ∀ i, i < 8 → (V.sl i).n ≤ 140737488355328) (hb : Cal.dayB b = true) (h : Cal.dayB n = true) :
    Calls Tryz.prog 110 #[.agg V.val, .int .i64 b, .int .i64 n] w fun r w' => r = .returned (.bool (Mc.like2 V.r b n)) ∧ Gr w w' := by
  have hg : Gr w (w.alloc (.cells V.val 27)) := (Gr.refl w).allocO _
  have hbx := RBx.now w V 27
  have cB := fun w' => date_yes b w' hb
  have cN := fun w' => date_yes n w' h
  have n3 : V.mday.n ≤ 140737488355328 := hn 3 (by decide)
  have n4 : V.yday.n ≤ 140737488355328 := hn 4 (by decide)
  have n5 : V.week.n ≤ 140737488355328 := hn 5 (by decide)
  have n6 : V.month.n ≤ 140737488355328 := hn 6 (by decide)
  have l3 : V.r.mday.length = V.mday.n := (hM.l 3 (by decide)).1
  have l4 : V.r.yday.length = V.yday.n := (hM.l 4 (by decide)).1
  have l5 : V.r.week.length = V.week.n := (hM.l 5 (by decide)).1
  have l6 : V.r.month.length = V.month.n := (hM.l 6 (by decide)).1
  have ld : V.r.day.length = V.day.n := hM.d.1
  have HI : Hid (Mc.like2 V.r b n = (!(decide (V.yday.n = 0) && decide (V.mday.n = 0) && decide (V.day.n = 0)) || if V.r.freq = 2 ∨ V.week.n ≠ 0 then n % 7 == b % 7 else if V.r.freq = 3 then Cal.dom n == Cal.dom b else if V.r.freq = 4 then Cal.dom n == Cal.dom b && (!decide (V.month.n = 0) || Cal.mon n == Cal.mon b) else true)) := Lib.hid (by
    unfold Mc.like2 Mc.sml2
    rw [emp_len l3, emp_len l4, emp_len l6, emp_len ld]
    simp only [ne_len l5])
  obtain ⟨q, hq⟩ : ∃ q, Mc.like2 V.r b n = q := ⟨_, rfl⟩
  rw [hq] at HI ⊢
  have e0 := hbx.c0
  have e11 := hbx.c11
  have e12 := hbx.c12
  have e13 := hbx.c13
  have e14 := hbx.c14
  have e15 := hbx.c15
  have H := Lib.hid (And.intro hb h)
  clear hq hn hM l3 l4 l5 l6 ld hbx hb h
  generalize V.mday.n = m3 at *
  generalize V.mday.A = A3 at *
  generalize V.mday.c = x3 at *
  generalize V.yday.n = m4 at *
  generalize V.yday.A = A4 at *
  generalize V.yday.c = x4 at *
  generalize V.week.n = m5 at *
  generalize V.week.A = A5 at *
  generalize V.week.c = x5 at *
  generalize V.month.n = m6 at *
  generalize V.month.A = A6 at *
  generalize V.month.c = x6 at *
  generalize V.day.n = md at *
  generalize V.day.A = Ad at *
  generalize V.day.c = xd at *
  generalize V.r.freq = f at *
  go_enter Tryz.func110, Tryz.ntmps110
  go_upto_region 1 with fail
  generalize w.alloc (.cells V.val 27) = W at *
  by_cases h0 : m4 + m3 + md = 0
  case neg =>
    as_aux_lemma =>
    have HE : Hid (true = q) := Lib.hid (by
      rw [HI.out]
      have : (decide (m4 = 0) && decide (m3 = 0) && decide (md = 0)) = false := by
        rw [Bool.eq_false_iff]
        intro c
        simp only [Bool.and_eq_true, decide_eq_true_eq] at c
        omega
      rw [this]; rfl)
    have hx : decide ((0 : Int) < (m4 : Int) + (m3 : Int) + (md : Int)) = true := by simp; omega
    clear cB cN HI
    go_wp2
    go_ret
    exact ⟨ret_bool HE.out, hg⟩
  obtain rfl : m4 = 0 := by omega
  obtain rfl : m3 = 0 := by omega
  obtain rfl : md = 0 := by omega
  have HI : Hid (q = if f = 2 ∨ m5 ≠ 0 then n % 7 == b % 7 else if f = 3 then Cal.dom n == Cal.dom b else if f = 4 then Cal.dom n == Cal.dom b && (!decide (m6 = 0) || Cal.mon n == Cal.mon b) else true) := Lib.hid (by simpa using HI.out)
  go_wp2_with fail
  refine (cB _).mono ?_
  rintro e w1 ⟨rfl, hg1⟩
  have e0 := gr_cell hg1 e0
  have e14 := gr_cell hg1 e14
  have e15 := gr_cell hg1 e15
  have hg := hg.trans hg1
  clear hg1 e11 e12 e13 cB
  have hgA : Gr w1 (w1.alloc (.cells #[.int .i64 (Cal.yr b), .int .i64 (Cal.mon b), .int .i64 (Cal.dom b)] 85)) := (Gr.refl w1).allocO _
  obtain ⟨k0, k1, k2⟩ := box_now w1 (.int .i64 (Cal.yr b)) (.int .i64 (Cal.mon b)) (.int .i64 (Cal.dom b)) 85
  have e0 := gr_cell hgA e0
  have e14 := gr_cell hgA e14
  have e15 := gr_cell hgA e15
  have hg := hg.trans hgA
  go_wp2_with fail
  generalize w1.alloc (.cells #[.int .i64 (Cal.yr b), .int .i64 (Cal.mon b), .int .i64 (Cal.dom b)] 85) = W1 at *
  refine (cN _).mono ?_
  rintro e w2 ⟨rfl, hg2⟩
  have e0 := gr_cell hg2 e0
  have e14 := gr_cell hg2 e14
  have e15 := gr_cell hg2 e15
  have k1 := gr_cell hg2 k1
  have k2 := gr_cell hg2 k2
  have hg := hg.trans hg2
  clear hg2 hgA k0 cN
  have hgB : Gr w2 (w2.alloc (.cells #[.int .i64 (Cal.yr n), .int .i64 (Cal.mon n), .int .i64 (Cal.dom n)] 85)) := (Gr.refl w2).allocO _
  obtain ⟨j0, j1, j2⟩ := box_now w2 (.int .i64 (Cal.yr n)) (.int .i64 (Cal.mon n)) (.int .i64 (Cal.dom n)) 85
  have e0 := gr_cell hgB e0
  have e14 := gr_cell hgB e14
  have e15 := gr_cell hgB e15
  have k1 := gr_cell hgB k1
  have k2 := gr_cell hgB k2
  have hg := hg.trans hgB
  clear hgB j0
  go_upto_region 5 with fail
  generalize w2.alloc (.cells #[.int .i64 (Cal.yr n), .int .i64 (Cal.mon n), .int .i64 (Cal.dom n)] 85) = W2 at *
  by_cases f2 : f = 2
  · as_aux_lemma =>
    subst f2
    rw [if_pos (.inl rfl)] at HI
    clear e14 e15 k1 k2 j1 j2
    go_wp2_with (go_at_call 132; refine (weekday_any _ _).mono ?_; rintro e w' ⟨rfl, rfl⟩)
    go_ret
    exact ⟨ret_bool HI.out.symm, hg⟩
  have g2 : (f == 2) = false := beq_eq_false_iff_ne.2 f2
  by_cases h5 : m5 = 0
  case neg =>
    as_aux_lemma =>
    rw [if_pos (.inr h5)] at HI
    have hm5 : (0 : Int) < (m5 : Int) := by omega
    clear e15 k1 k2 j1 j2
    go_wp2_with (go_at_call 132; refine (weekday_any _ _).mono ?_; rintro e w' ⟨rfl, rfl⟩)
    go_ret
    exact ⟨ret_bool HI.out.symm, hg⟩
  subst h5
  rw [if_neg (by rintro (c | c); exact f2 c; exact c rfl)] at HI
  by_cases f3 : f = 3
  · as_aux_lemma =>
    subst f3
    rw [if_pos rfl] at HI
    clear e15 k1 j1
    go_wp2
    go_ret
    exact ⟨ret_bool HI.out.symm, hg⟩
  have g3 : (f == 3) = false := beq_eq_false_iff_ne.2 f3
  rw [if_neg f3] at HI
  by_cases f4 : f = 4
  case neg =>
    as_aux_lemma =>
    have g4 : (f == 4) = false := beq_eq_false_iff_ne.2 f4
    rw [if_neg f4] at HI
    clear e15 k1 k2 j1 j2
    go_wp2
    go_ret
    exact ⟨ret_bool HI.out.symm, hg⟩
  subst f4
  rw [if_pos rfl] at HI
  cases hdm : (Cal.dom n == Cal.dom b)
  · as_aux_lemma =>
    rw [hdm] at HI
    have HE : Hid (q = false) := Lib.hid (by simpa using HI.out)
    clear HI
    go_wp2
    go_ret
    exact ⟨ret_bool HE.out.symm, hg⟩
  rw [hdm] at HI
  by_cases h6 : m6 = 0
  · as_aux_lemma =>
    subst h6
    have HE : Hid (q = (Cal.mon n == Cal.mon b)) := Lib.hid (by simpa using HI.out)
    clear HI
    go_wp2
    go_ret
    exact ⟨ret_bool HE.out.symm, hg⟩
  · as_aux_lemma =>
    have HE : Hid (q = true) := Lib.hid (by simpa [h6] using HI.out)
    have hm6 : (0 : Int) < (m6 : Int) := by omega
    clear HI
    go_wp2
    go_ret
    exact ⟨ret_bool HE.out.symm, hg⟩
end Go.Proofs.YtmbmkldcedkbmaaGreat
