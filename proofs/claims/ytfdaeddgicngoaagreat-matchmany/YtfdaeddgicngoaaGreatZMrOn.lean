/- What the reference's onDay (layer 14) returns. -/
import Derived.Test.YtfdaeddgicngoaaGreatZGg
namespace Go.Proofs.YtfdaeddgicngoaaGreat
open Go.RowKit

namespace Mc
/- how many of the days from f on, ahead of k, have n's weekday and lie ahead of n, and one; behind n, and one -/
def cA (f n k : Int) : Int := if k ≤ n then 1 + ((n - f) / 7 - (n - k) / 7) else (n - f) / 7 + 1
def cB (n k : Int) : Int := if k ≤ n then 1 else 1 + (k - 1 - n) / 7
theorem cA_0 {f n : Int} (h : f ≤ n) : cA f n f = 1 := by unfold cA; rw [if_pos h]; omega
theorem cB_0 {f n : Int} (h : f ≤ n) : cB n f = 1 := by unfold cB; rw [if_pos h]
theorem cA_no {f n k : Int} (h : ¬ k % 7 = n % 7) : cA f n (k + 1) = cA f n k := by
  unfold cA
  split
  · rw [if_pos (by omega)]; omega
  · by_cases e : k = n
    · subst e; exact absurd rfl h
    · rw [if_neg (by omega)]
theorem cB_no {n k : Int} (h : ¬ k % 7 = n % 7) : cB n (k + 1) = cB n k := by
  unfold cB
  split
  · rw [if_pos (by omega)]
  · by_cases e : k = n
    · subst e; exact absurd rfl h
    · rw [if_neg (by omega)]; omega
theorem cA_lt {f n k : Int} (h : k % 7 = n % 7) (hk : k < n) : cA f n (k + 1) = cA f n k + 1 := by
  unfold cA; rw [if_pos (by omega), if_pos (by omega)]; omega
theorem cB_lt {n k : Int} (hk : k < n) : cB n (k + 1) = cB n k := by
  unfold cB; rw [if_pos (by omega), if_pos (by omega)]
theorem cA_at {f n : Int} : cA f n (n + 1) = cA f n n := by
  unfold cA; rw [if_neg (by omega), if_pos (by omega)]; omega
theorem cB_at {n : Int} : cB n (n + 1) = cB n n := by
  unfold cB; rw [if_neg (by omega), if_pos (by omega)]; omega
theorem cA_gt {f n k : Int} (hk : n < k) : cA f n (k + 1) = cA f n k := by
  unfold cA; rw [if_neg (by omega), if_neg (by omega)]
theorem cB_gt {n k : Int} (h : k % 7 = n % 7) (hk : n < k) : cB n (k + 1) = cB n k + 1 := by
  unfold cB; rw [if_neg (by omega), if_neg (by omega)]; omega
theorem cA_end {f l n : Int} (h : n < f + l) : cA f n (f + l) = ahd f n := by
  unfold cA ahd; rw [if_neg (by omega)]
theorem cB_end {f l n : Int} (h : n < f + l) : cB n (f + l) = bhd f l n := by
  unfold cB bhd; rw [if_neg (by omega)]; omega
theorem cAB_bd {f n k l : Int} (h1 : f ≤ k) (h2 : k ≤ f + l) (h3 : f ≤ n) (h4 : n < f + l) (h5 : l ≤ 400) : (1 ≤ cA f n k ∧ cA f n k ≤ 400) ∧ (1 ≤ cB n k ∧ cB n k ≤ 400) := by
  unfold cA cB
  split <;> omega
theorem on_f {c2 c3 c4 : Bool} (h : false = (true && (c2 || c3 || c4))) : c2 = false ∧ c3 = false ∧ c4 = false := by
  cases c2 <;> cases c3 <;> cases c4 <;> simp at h ⊢
theorem on_t {c1 r : Bool} (h : true = (c1 && r)) : c1 = true := by
  cases c1 <;> simp at h ⊢
theorem on_t4 {c4 : Bool} (h : true = (true && (false || false || c4))) : c4 = true := by
  cases c4 <;> simp at h ⊢
end Mc
set_option maxRecDepth 100000 in
set_option maxHeartbeats 4000000 in
theorem ronday_any (V : Rm.Rv) (n : Int) (w : World) (hM : RuM w w.heap.size V) (hd : V.day.n ≤ 140737488355328) (hn : V.month.n ≤ 140737488355328) (h : Cal.dayB n = true) :
    Calls Tryz.prog 27 #[.agg V.val, .int .i64 n] w fun r w' => r = .returned (.bool (Mc.onD V.r n)) ∧ Gr w w' := by
  obtain ⟨n1, n2⟩ := Cal.dayB_iff.1 h
  have yb := Cal.yr_bd n1 n2
  have mb : 1 ≤ Cal.mon n ∧ Cal.mon n ≤ 12 := Cal.mo_bd (Cal.yr n) (n - Cal.dby (Cal.yr n))
  have hg : Gr w (w.alloc (.cells V.val 27)) := (Gr.refl w).allocO _
  have hbx := RBx.now w V 27
  have e0 := hbx.c0
  have e11 := hbx.c11
  have e15 := hbx.c15
  have cD := fun w' => rdate14_any n w' h
  have l6 : V.r.month.length = V.month.n := (hM.l 6 (by decide)).1
  have ylc := Mc.ylen_cases (Cal.yr n)
  have mo := Mc.month_of h
  have yo := Mc.year_of n
  have di := Cal.dim_bd (Cal.yr n) (Cal.mon n)
  have yeq : Mc.ylen (Cal.yr n) = Cal.dby (Cal.yr n + 1) - Cal.dby (Cal.yr n) := rfl
  have jan := Mc.num_jan (Cal.yr n)
  have lb := Cal.dby_bdw (a := Cal.yr n) (by omega) (by omega)
  have nb := num_bdw (y := Cal.yr n) (m := Cal.mon n) (d := 1) (by omega) (by omega) (by omega) (by omega) (by omega) (by omega)
  have HF : Hid (Mc.fst V.r n = (if V.r.freq = 3 ∨ V.month.n ≠ 0 then Cal.num (Cal.yr n) (Cal.mon n) 1 else Cal.num (Cal.yr n) 1 1) ∧ Mc.len V.r n = (if V.r.freq = 3 ∨ V.month.n ≠ 0 then Cal.dim (Cal.yr n) (Cal.mon n) else Mc.ylen (Cal.yr n))) := Lib.hid (by
    rw [Mc.num_jan]
    unfold Mc.fst Mc.len
    simp only [show (V.r.month ≠ []) ↔ V.month.n ≠ 0 by
      rw [← l6]
      cases V.r.month <;> simp, and_self])
  have HD : Hid (Mc.onD V.r n = V.r.day.any (Mc.onW n (Mc.ahd (Mc.fst V.r n) n) (Mc.bhd (Mc.fst V.r n) (Mc.len V.r n) n))) := rfl
  have hb : Mc.fst V.r n ≤ n ∧ n < Mc.fst V.r n + Mc.len V.r n ∧ Mc.len V.r n ≤ 400 ∧ -100000000 ≤ Mc.fst V.r n ∧ Mc.fst V.r n ≤ 100000000 ∧ 0 ≤ Mc.len V.r n := by
    rw [HF.out.1, HF.out.2]
    split <;> omega
  have HP := Lib.hid hM.d
  have hl := hM.d.1
  obtain ⟨q, hq⟩ : ∃ q, Mc.onD V.r n = q := ⟨_, rfl⟩
  rw [hq] at HD ⊢
  clear hq hM hbx l6 mo yo yeq jan lb nb h
  generalize Mc.fst V.r n = f at *
  generalize Mc.len V.r n = l at *
  generalize Cal.dom n = d at *
  go_enter Tryz.func27, Tryz.ntmps27
  go_wp2_with fail
  refine (cD _).mono ?_
  rintro e w1 ⟨rfl, hg1⟩
  have e0 := gr_cell hg1 e0
  have e11 := gr_cell hg1 e11
  have e15 := gr_cell hg1 e15
  have hgA : Gr w1 (w1.alloc (.cells #[.int .i64 (Cal.yr n), .int .i64 (Cal.mon n), .int .i64 d] 50)) := (Gr.refl w1).allocO _
  obtain ⟨k0, k1, k2⟩ := box_now w1 (.int .i64 (Cal.yr n)) (.int .i64 (Cal.mon n)) (.int .i64 d) 50
  have e0 := gr_cell hgA e0
  have e11 := gr_cell hgA e11
  have e15 := gr_cell hgA e15
  have hg := (hg.trans hg1).trans hgA
  clear hg1 hgA cD k2
  go_upto_region 2 with fail
  generalize w1.alloc (.cells #[.int .i64 (Cal.yr n), .int .i64 (Cal.mon n), .int .i64 d] 50) = W at *
  go_quiet (first | (go_at_call 21; exact qsame (fixed0_any _ _ _ _ (by omega) (by omega) (by omega) (by omega) (by omega) (by omega))) | (go_at_call 25; exact qsame (ryear_any _ _ (by omega) (by omega))))
  have hW : Gr W (W.drewN nq) := (Gr.refl W).drewN nq
  have hg := hg.trans hW
  have e0 := gr_cell hW e0
  have e11 := gr_cell hW e11
  have e15 := gr_cell hW e15
  have k0 := gr_cell hW k0
  have k1 := gr_cell hW k1
  clear hW
  go_upto_region 3 with fail
  generalize W.drewN nq = W at *
  obtain ⟨t, ht⟩ : ∃ t, decide (V.r.freq = 3 ∨ V.month.n ≠ 0) = t := ⟨_, rfl⟩
  go_cut [29] from 21 (fun v wx => v = .bool t ∧ W = wx)
  case first =>
    clear HD HP hl HF
    by_cases f3 : V.r.freq = 3
    · as_aux_lemma =>
      have HT : Hid (true = t) := Lib.hid (by rw [← ht, decide_eq_true (.inl f3)])
      rw [f3] at e0
      clear f3 ht
      go_wp2
      go_meet
      case rel => exact ⟨by rw [HT.out], rfl⟩
    have g3 : (V.r.freq == 3) = false := beq_eq_false_iff_ne.2 f3
    by_cases h6 : V.month.n = 0
    · as_aux_lemma =>
      have HT : Hid (false = t) := Lib.hid (by rw [← ht, decide_eq_false (by rintro (c | c); exact f3 c; exact c h6)])
      rw [h6] at e15
      generalize V.r.freq = fr at *
      clear f3 h6 ht
      go_wp2
      go_meet
      case rel => exact ⟨by rw [HT.out], rfl⟩
    · as_aux_lemma =>
      have HT : Hid (true = t) := Lib.hid (by rw [← ht, decide_eq_true (.inr h6)])
      have hm6 : (0 : Int) < (V.month.n : Int) := by omega
      generalize V.r.freq = fr at *
      clear f3 h6 ht
      go_wp2
      go_meet
      case rel => exact ⟨by rw [← HT.out, decide_eq_true (by omega)], rfl⟩
  case rest =>
  obtain ⟨rfl, rfl⟩ := hcut
  go_upto_if 29 with fail
  go_cut [6, 7] from 21 (fun v6 v7 wx => v6 = .int .i64 f ∧ v7 = .int .i64 l ∧ Gr W wx)
  case first =>
    clear HD HP hl
    rcases t
    · as_aux_lemma =>
      obtain ⟨x1, x2⟩ := HF.out
      rw [if_neg (of_decide_eq_false ht)] at x1 x2
      have X1 := Lib.hid x1.symm
      have X2 := Lib.hid x2.symm
      clear x1 x2 HF ht
      go_wp2
      go_meet
      case rel => exact ⟨by rw [X1.out], by rw [X2.out], Gr.refl _⟩
    · as_aux_lemma =>
      obtain ⟨x1, x2⟩ := HF.out
      rw [if_pos (of_decide_eq_true ht)] at x1 x2
      have X1 := Lib.hid x1.symm
      have X2 := Lib.hid x2.symm
      clear x1 x2 HF ht
      go_wp2
      go_quiet (first | (go_at_call 21; exact qsame (fixed0_any _ _ _ _ (by omega) (by omega) (by omega) (by omega) (by omega) (by omega))) | (go_at_call 26; exact qsame (reflength0 _ _ (by omega) (by omega) _)))
      go_wp2
      go_meet
      case rel => exact ⟨by rw [X1.out], by rw [X2.out], (Gr.refl _).drewN _⟩
  case rest =>
  obtain ⟨rfl, rfl, hg2⟩ := hcut
  have e11 := gr_cell hg2 e11
  have hg := hg.trans hg2
  clear HF e0 e15 k0 k1 hg2 ylc di mb yb ht
  have HQ := Lib.hid (Mc.cA_0 hb.1)
  have HR := Lib.hid (Mc.cB_0 hb.1)
  go_wp2
  go_loop [8, 9, 10] (fun t8 t9 t10 => ∃ k : Int, f ≤ k ∧ k ≤ f + l ∧ t10 = .int .i64 k ∧ t8 = .int .i64 (Mc.cA f n k) ∧ t9 = .int .i64 (Mc.cB n k)) (fun _ _ t10 => (f + l - intOf t10).toNat)
  case atStart => exact ⟨f, by omega, by omega, rfl, by rw [HQ.out], by rw [HR.out]⟩
  case round =>
    obtain ⟨k, k1, k2, rfl, rfl, rfl⟩ := hrel
    have bd := Mc.cAB_bd k1 k2 hb.1 hb.2.1 hb.2.2.1
    have cN := fun w' => rweekday_any n w' (by omega) (by omega)
    have cK := fun w' => rweekday_any k w' (by omega) (by omega)
    by_cases hk : k < f + l
    · by_cases he : k % 7 = n % 7
      · rw [he] at cK
        by_cases hlt : k < n
        · as_aux_lemma =>
            have E1 := Lib.hid (Mc.cA_lt (f := f) he hlt)
            have E2 := Lib.hid (Mc.cB_lt hlt)
            have g1 : decide (n < k) = false := by simp; omega
            go_wp2_with (go_at_call 28; first | (refine (cK _).mono ?_; rintro e w' ⟨rfl, rfl⟩) | (refine (cN _).mono ?_; rintro e w' ⟨rfl, rfl⟩))
            go_round
            case rel => exact ⟨k + 1, by omega, by omega, rfl, by rw [E1.out], by rw [E2.out]⟩
            case measure => simp [intOf]; omega
        · by_cases heq : k = n
          · as_aux_lemma =>
              have E1 := Lib.hid ((by rw [heq]; exact Mc.cA_at : Mc.cA f n (k + 1) = Mc.cA f n k))
              have E2 := Lib.hid ((by rw [heq]; exact Mc.cB_at : Mc.cB n (k + 1) = Mc.cB n k))
              have g1 : decide (n < k) = false := by simp; omega
              have g2 : decide (k < n) = false := by simp; omega
              clear heq
              go_wp2_with (go_at_call 28; first | (refine (cK _).mono ?_; rintro e w' ⟨rfl, rfl⟩) | (refine (cN _).mono ?_; rintro e w' ⟨rfl, rfl⟩))
              go_round
              case rel => exact ⟨k + 1, by omega, by omega, rfl, by rw [E1.out], by rw [E2.out]⟩
              case measure => simp [intOf]; omega
          · have hgt : n < k := by omega
            as_aux_lemma =>
              have E1 := Lib.hid (Mc.cA_gt (f := f) hgt)
              have E2 := Lib.hid (Mc.cB_gt he hgt)
              have g2 : decide (k < n) = false := by simp; omega
              go_wp2_with (go_at_call 28; first | (refine (cK _).mono ?_; rintro e w' ⟨rfl, rfl⟩) | (refine (cN _).mono ?_; rintro e w' ⟨rfl, rfl⟩))
              go_round
              case rel => exact ⟨k + 1, by omega, by omega, rfl, by rw [E1.out], by rw [E2.out]⟩
              case measure => simp [intOf]; omega
      · have hk' : (k % 7 == n % 7) = false := by simpa using he
        as_aux_lemma =>
          have E1 := Lib.hid (Mc.cA_no (f := f) he)
          have E2 := Lib.hid (Mc.cB_no he)
          go_wp2_with (go_at_call 28; first | (refine (cK _).mono ?_; rintro e w' ⟨rfl, rfl⟩) | (refine (cN _).mono ?_; rintro e w' ⟨rfl, rfl⟩))
          go_round
          case rel => exact ⟨k + 1, by omega, by omega, rfl, by rw [E1.out], by rw [E2.out]⟩
          case measure => simp [intOf]; omega
    · obtain rfl : k = f + l := by omega
      have hx := hb.2.1
      rw [Mc.cA_end hx, Mc.cB_end hx] at bd ⊢
      clear cK cN hk k1 k2 hx
      have HN := Lib.hid hd
      have bd2 := bd.2
      have bd1 := bd.1
      clear hd bd
      generalize Mc.ahd f n = a at *
      generalize Mc.bhd f l n = b at *
      have hz : ∀ x y, Mc.onW n a b (x, y) = (y == n % 7 && (x == 0 || x == a || x == -b)) := fun _ _ => rfl
      have cN : ∀ w', Calls Tryz.prog 28 #[.int .i64 n] w' fun e w'' => e = .returned (.int .i64 (n % 7)) ∧ w' = w'' := fun w' => rweekday_any n w' (by omega) (by omega)
      generalize V.day.A = A at *
      generalize V.day.n = m at *
      generalize V.day.c = c at *
      generalize V.r.day = ps at *
      generalize Mc.onW n a b = ow at *
      generalize n % 7 = wd at *
      go_wp2
      go_loopg [75] m (fun g v wx => ∃ j : Nat, v = .int .i64 (j : Int) ∧ j + g = m ∧ Gr wc wx ∧ Hid ((ps.take j).any ow = false))
      case atStart => exact ⟨0, rfl, by omega, Gr.refl _, Lib.hid (by simp)⟩
      case round =>
        obtain ⟨j, rfl, hjg, hg3, HA⟩ := hrel
        have HG := Lib.hid hjg
        clear hjg
        have hm := HN.out
        have e11 := gr_cell hg3 e11
        have hg := hg.trans hg3
        by_cases hj : j < m
        · obtain ⟨ad, hj', rfl, hbl, hc0, hc1⟩ := (HP.out.gr hg).at_ hj
          dsimp only [dv1, dv2] at hc0 hc1
          have HT := Lib.hid (List.take_succ_eq_append_getElem hj')
          have HM := Lib.hid (List.getElem_mem hj')
          have hz := hz ps[j].1 ps[j].2
          have HS : Hid (ow (ps[j].1, ps[j].2) = false → (ps.take (j + 1)).any ow = false) := Lib.hid (fun h => by rw [HT.out, List.any_append, HA.out, List.any_cons, List.any_nil, show ow ps[j] = false from h]; rfl)
          have HY : Hid (ow (ps[j].1, ps[j].2) = true → true = q) := Lib.hid (fun h => by rw [HD.out, List.any_eq_true.2 ⟨_, HM.out, h⟩])
          clear HT HM
          generalize ps[j].1 = x at *
          generalize ps[j].2 = y at *
          generalize ow (x, y) = z at *
          have hgA : Gr wr (wr.alloc (.cells #[.int .i64 x, .int .i64 y] 73)) := (Gr.refl wr).allocO _
          have hgN := hg3.trans hgA
          have hgM := hg.trans hgA
          clear HP HA hl
          rcases hzc : z
          · have HS := Lib.hid (HS.out hzc)
            rw [hzc] at hz
            clear HY
            cases c1 : (y == wd)
            · as_aux_lemma =>
              clear hz
              go_wp2
              go_quiet (first | (go_at_call 28; exact qsame (cN _)))
              go_wp2
              go_roundg (m - (j + 1))
              case measure => have := HG.out; omega
              case rel => exact ⟨j + 1, by go_num, by omega, hgN.drewN _, HS⟩
            rw [c1] at hz
            obtain ⟨c2, c3, c4⟩ := Mc.on_f hz
            as_aux_lemma =>
              clear hz
              go_wp2
              go_quiet (first | (go_at_call 28; exact qsame (cN _)))
              go_wp2
              go_roundg (m - (j + 1))
              case measure => have := HG.out; omega
              case rel => exact ⟨j + 1, by go_num, by omega, hgN.drewN _, HS⟩
          · have HY := Lib.hid (HY.out hzc)
            rw [hzc] at hz
            clear HS
            have c1 : (y == wd) = true := Mc.on_t hz
            rw [c1] at hz
            cases c2 : (x == 0)
            · cases c3 : (x == a)
              · have c4 : (x == -b) = true := by rw [c2, c3] at hz; exact Mc.on_t4 hz
                as_aux_lemma =>
                clear hz
                go_wp2
                go_quiet (first | (go_at_call 28; exact qsame (cN _)))
                go_wp2
                go_ret
                exact ⟨ret_bool HY.out, hgM.drewN _⟩
              · as_aux_lemma =>
                clear hz
                go_wp2
                go_quiet (first | (go_at_call 28; exact qsame (cN _)))
                go_wp2
                go_ret
                exact ⟨ret_bool HY.out, hgM.drewN _⟩
            · as_aux_lemma =>
              clear hz
              go_wp2
              go_quiet (first | (go_at_call 28; exact qsame (cN _)))
              go_wp2
              go_ret
              exact ⟨ret_bool HY.out, hgM.drewN _⟩
        · obtain rfl : j = m := by have := HG.out; omega
          have HQ2 : Hid (false = q) := Lib.hid (by
            have h1 := HA.out
            rw [List.take_of_length_le (by rw [hl]; exact Nat.le_refl _)] at h1
            rw [HD.out, h1])
          go_wp2
          go_ret
          exact ⟨ret_bool HQ2.out, hg⟩
end Go.Proofs.YtfdaeddgicngoaaGreat
