/- The texts MrOn, MrPer, MrFits, MrSpan, one behind the other. -/
import Derived.Test.YtmbmkldcedkbmaaGreatZGg
import Derived.Test.YtmbmkldcedkbmaaGreatZMtFits
namespace Go.Proofs.YtmbmkldcedkbmaaGreat
open Go.RowKit

namespace Mc
/- how many of the days from f on, ahead of k, have n's weekday and lie ahead of n, and one; behind n, and one -/
def cA (f n k : Int) : Int := if k ≤ n then 1 + ((n - f) / 7 - (n - k) / 7) else (n - f) / 7 + 1
def cB (n k : Int) : Int := if k ≤ n then 1 else 1 + (k - 1 - n) / 7
theorem cA_0 {f n : Int} (h : f ≤ n) : cA f n f = 1 := by unfold cA; rw [if_pos h]; omega
theorem cB_0 {f n : Int} (h : f ≤ n) : cB n f = 1 := by unfold cB; rw [if_pos h]
theorem cA_no {f n k : Int} (h : ¬ k % 7 = n % 7) : cA f n (k + 1) = cA f n k := by
  unfold cA
  split
  · rw [if_pos (by omega)]; omega
  · by_cases e : k = n
    · subst e; exact absurd rfl h
    · rw [if_neg (by omega)]
theorem cB_no {n k : Int} (h : ¬ k % 7 = n % 7) : cB n (k + 1) = cB n k := by
  unfold cB
  split
  · rw [if_pos (by omega)]
  · by_cases e : k = n
    · subst e; exact absurd rfl h
    · rw [if_neg (by omega)]; omega
theorem cA_lt {f n k : Int} (h : k % 7 = n % 7) (hk : k < n) : cA f n (k + 1) = cA f n k + 1 := by
  unfold cA; rw [if_pos (by omega), if_pos (by omega)]; omega
theorem cB_lt {n k : Int} (hk : k < n) : cB n (k + 1) = cB n k := by
  unfold cB; rw [if_pos (by omega), if_pos (by omega)]
theorem cA_at {f n : Int} : cA f n (n + 1) = cA f n n := by
  unfold cA; rw [if_neg (by omega), if_pos (by omega)]; omega
theorem cB_at {n : Int} : cB n (n + 1) = cB n n := by
  unfold cB; rw [if_neg (by omega), if_pos (by omega)]; omega
theorem cA_gt {f n k : Int} (hk : n < k) : cA f n (k + 1) = cA f n k := by
  unfold cA; rw [if_neg (by omega), if_neg (by omega)]
theorem cB_gt {n k : Int} (h : k % 7 = n % 7) (hk : n < k) : cB n (k + 1) = cB n k + 1 := by
  unfold cB; rw [if_neg (by omega), if_neg (by omega)]; omega
theorem cA_end {f l n : Int} (h : n < f + l) : cA f n (f + l) = ahd f n := by
  unfold cA ahd; rw [if_neg (by omega)]
theorem cB_end {f l n : Int} (h : n < f + l) : cB n (f + l) = bhd f l n := by
  unfold cB bhd; rw [if_neg (by omega)]; omega
theorem cAB_bd {f n k l : Int} (h1 : f ≤ k) (h2 : k ≤ f + l) (h3 : f ≤ n) (h4 : n < f + l) (h5 : l ≤ 400) : (1 ≤ cA f n k ∧ cA f n k ≤ 400) ∧ (1 ≤ cB n k ∧ cB n k ≤ 400) := by
  unfold cA cB
  split <;> omega
theorem on_f {c2 c3 c4 : Bool} (h : false = (true && (c2 || c3 || c4))) : c2 = false ∧ c3 = false ∧ c4 = false := by
  cases c2 <;> cases c3 <;> cases c4 <;> simp at h ⊢
theorem on_t {c1 r : Bool} (h : true = (c1 && r)) : c1 = true := by
  cases c1 <;> simp at h ⊢
theorem on_t4 {c4 : Bool} (h : true = (true && (false || false || c4))) : c4 = true := by
  cases c4 <;> simp at h ⊢
end Mc
set_option maxRecDepth 100000 in
set_option maxHeartbeats 4000000 in
theorem ronday_any (V : Rm.Rv) (n : Int) (w : World) (hM : RuM w w.heap.size V) (hd : V.day.n ≤ 140737488355328) (hn : V.month.n ≤ 140737488355328) (h : Cal.dayB n = true) :
    Calls Tryz.prog 56 #[.agg V.val, .int .i64 n] w fun r w' => r = .returned (.bool (Mc.onD V.r n)) ∧ Gr w w' := by
  obtain ⟨n1, n2⟩ := Cal.dayB_iff.1 h
  have yb := Cal.yr_bd n1 n2
  have mb : 1 ≤ Cal.mon n ∧ Cal.mon n ≤ 12 := Cal.mo_bd (Cal.yr n) (n - Cal.dby (Cal.yr n))
  have hg : Gr w (w.alloc (.cells V.val 27)) := (Gr.refl w).allocO _
  have hbx := RBx.now w V 27
  have e0 := hbx.c0
  have e11 := hbx.c11
  have e15 := hbx.c15
  have cD := fun w' => rdate14_any n w' h
  have l6 : V.r.month.length = V.month.n := (hM.l 6 (by decide)).1
  have ylc := Mc.ylen_cases (Cal.yr n)
  have mo := Mc.month_of h
  have yo := Mc.year_of n
  have di := Cal.dim_bd (Cal.yr n) (Cal.mon n)
  have yeq : Mc.ylen (Cal.yr n) = Cal.dby (Cal.yr n + 1) - Cal.dby (Cal.yr n) := rfl
  have jan := Mc.num_jan (Cal.yr n)
  have lb := Cal.dby_bdw (a := Cal.yr n) (by omega) (by omega)
  have nb := num_bdw (y := Cal.yr n) (m := Cal.mon n) (d := 1) (by omega) (by omega) (by omega) (by omega) (by omega) (by omega)
  have HF : Hid (Mc.fst V.r n = (if V.r.freq = 3 ∨ V.month.n ≠ 0 then Cal.num (Cal.yr n) (Cal.mon n) 1 else Cal.num (Cal.yr n) 1 1) ∧ Mc.len V.r n = (if V.r.freq = 3 ∨ V.month.n ≠ 0 then Cal.dim (Cal.yr n) (Cal.mon n) else Mc.ylen (Cal.yr n))) := Lib.hid (by
    rw [Mc.num_jan]
    unfold Mc.fst Mc.len
    simp only [show (V.r.month ≠ []) ↔ V.month.n ≠ 0 by
      rw [← l6]
      cases V.r.month <;> simp, and_self])
  have HD : Hid (Mc.onD V.r n = V.r.day.any (Mc.onW n (Mc.ahd (Mc.fst V.r n) n) (Mc.bhd (Mc.fst V.r n) (Mc.len V.r n) n))) := rfl
  have hb : Mc.fst V.r n ≤ n ∧ n < Mc.fst V.r n + Mc.len V.r n ∧ Mc.len V.r n ≤ 400 ∧ -100000000 ≤ Mc.fst V.r n ∧ Mc.fst V.r n ≤ 100000000 ∧ 0 ≤ Mc.len V.r n := by
    rw [HF.out.1, HF.out.2]
    split <;> omega
  have HP := Lib.hid hM.d
  have hl := hM.d.1
  obtain ⟨q, hq⟩ : ∃ q, Mc.onD V.r n = q := ⟨_, rfl⟩
  rw [hq] at HD ⊢
  clear hq hM hbx l6 mo yo yeq jan lb nb h
  generalize Mc.fst V.r n = f at *
  generalize Mc.len V.r n = l at *
  generalize Cal.dom n = d at *
  go_enter Tryz.func56, Tryz.ntmps56
  go_wp2_with fail
  refine (cD _).mono ?_
  rintro e w1 ⟨rfl, hg1⟩
  have e0 := gr_cell hg1 e0
  have e11 := gr_cell hg1 e11
  have e15 := gr_cell hg1 e15
  have hgA : Gr w1 (w1.alloc (.cells #[.int .i64 (Cal.yr n), .int .i64 (Cal.mon n), .int .i64 d] 85)) := (Gr.refl w1).allocO _
  obtain ⟨k0, k1, k2⟩ := box_now w1 (.int .i64 (Cal.yr n)) (.int .i64 (Cal.mon n)) (.int .i64 d) 85
  have e0 := gr_cell hgA e0
  have e11 := gr_cell hgA e11
  have e15 := gr_cell hgA e15
  have hg := (hg.trans hg1).trans hgA
  clear hg1 hgA cD k2
  go_upto_region 2 with fail
  generalize w1.alloc (.cells #[.int .i64 (Cal.yr n), .int .i64 (Cal.mon n), .int .i64 d] 85) = W at *
  go_quiet (first | (go_at_call 50; exact qsame (fixed0_any _ _ _ _ (by omega) (by omega) (by omega) (by omega) (by omega) (by omega))) | (go_at_call 55; exact qsame (ryear_any _ _ (by omega) (by omega))))
  have hW : Gr W (W.drewN nq) := (Gr.refl W).drewN nq
  have hg := hg.trans hW
  have e0 := gr_cell hW e0
  have e11 := gr_cell hW e11
  have e15 := gr_cell hW e15
  have k0 := gr_cell hW k0
  have k1 := gr_cell hW k1
  clear hW
  go_upto_region 3 with fail
  generalize W.drewN nq = W at *
  obtain ⟨t, ht⟩ : ∃ t, decide (V.r.freq = 3 ∨ V.month.n ≠ 0) = t := ⟨_, rfl⟩
  go_cut [29] from 21 (fun v wx => v = .bool t ∧ W = wx)
  case first =>
    clear HD HP hl HF
    by_cases f3 : V.r.freq = 3
    · as_aux_lemma =>
      have HT : Hid (true = t) := Lib.hid (by rw [← ht, decide_eq_true (.inl f3)])
      rw [f3] at e0
      clear f3 ht
      go_wp2
      go_meet
      case rel => exact ⟨by rw [HT.out], rfl⟩
    have g3 : (V.r.freq == 3) = false := beq_eq_false_iff_ne.2 f3
    by_cases h6 : V.month.n = 0
    · as_aux_lemma =>
      have HT : Hid (false = t) := Lib.hid (by rw [← ht, decide_eq_false (by rintro (c | c); exact f3 c; exact c h6)])
      rw [h6] at e15
      generalize V.r.freq = fr at *
      clear f3 h6 ht
      go_wp2
      go_meet
      case rel => exact ⟨by rw [HT.out], rfl⟩
    · as_aux_lemma =>
      have HT : Hid (true = t) := Lib.hid (by rw [← ht, decide_eq_true (.inr h6)])
      have hm6 : (0 : Int) < (V.month.n : Int) := by omega
      generalize V.r.freq = fr at *
      clear f3 h6 ht
      go_wp2
      go_meet
      case rel => exact ⟨by rw [← HT.out, decide_eq_true (by omega)], rfl⟩
  case rest =>
  obtain ⟨rfl, rfl⟩ := hcut
  go_upto_if 29 with fail
  go_cut [6, 7] from 21 (fun v6 v7 wx => v6 = .int .i64 f ∧ v7 = .int .i64 l ∧ Gr W wx)
  case first =>
    clear HD HP hl
    rcases t
    · as_aux_lemma =>
      obtain ⟨x1, x2⟩ := HF.out
      rw [if_neg (of_decide_eq_false ht)] at x1 x2
      have X1 := Lib.hid x1.symm
      have X2 := Lib.hid x2.symm
      clear x1 x2 HF ht
      go_wp2
      go_meet
      case rel => exact ⟨by rw [X1.out], by rw [X2.out], Gr.refl _⟩
    · as_aux_lemma =>
      obtain ⟨x1, x2⟩ := HF.out
      rw [if_pos (of_decide_eq_true ht)] at x1 x2
      have X1 := Lib.hid x1.symm
      have X2 := Lib.hid x2.symm
      clear x1 x2 HF ht
      go_wp2
      go_quiet (first | (go_at_call 50; exact qsame (fixed0_any _ _ _ _ (by omega) (by omega) (by omega) (by omega) (by omega) (by omega))) | (go_at_call 51; exact qsame (reflength0 _ _ (by omega) (by omega) _)))
      go_wp2
      go_meet
      case rel => exact ⟨by rw [X1.out], by rw [X2.out], (Gr.refl _).drewN _⟩
  case rest =>
  obtain ⟨rfl, rfl, hg2⟩ := hcut
  have e11 := gr_cell hg2 e11
  have hg := hg.trans hg2
  clear HF e0 e15 k0 k1 hg2 ylc di mb yb ht
  have HQ := Lib.hid (Mc.cA_0 hb.1)
  have HR := Lib.hid (Mc.cB_0 hb.1)
  go_wp2
  go_loop [8, 9, 10] (fun t8 t9 t10 => ∃ k : Int, f ≤ k ∧ k ≤ f + l ∧ t10 = .int .i64 k ∧ t8 = .int .i64 (Mc.cA f n k) ∧ t9 = .int .i64 (Mc.cB n k)) (fun _ _ t10 => (f + l - intOf t10).toNat)
  case atStart => exact ⟨f, by omega, by omega, rfl, by rw [HQ.out], by rw [HR.out]⟩
  case round =>
    obtain ⟨k, k1, k2, rfl, rfl, rfl⟩ := hrel
    have bd := Mc.cAB_bd k1 k2 hb.1 hb.2.1 hb.2.2.1
    have cN := fun w' => rweekday_any n w' (by omega) (by omega)
    have cK := fun w' => rweekday_any k w' (by omega) (by omega)
    by_cases hk : k < f + l
    · by_cases he : k % 7 = n % 7
      · rw [he] at cK
        by_cases hlt : k < n
        · as_aux_lemma =>
            have E1 := Lib.hid (Mc.cA_lt (f := f) he hlt)
            have E2 := Lib.hid (Mc.cB_lt hlt)
            have g1 : decide (n < k) = false := by simp; omega
            go_wp2_with (go_at_call 57; first | (refine (cK _).mono ?_; rintro e w' ⟨rfl, rfl⟩) | (refine (cN _).mono ?_; rintro e w' ⟨rfl, rfl⟩))
            go_round
            case rel => exact ⟨k + 1, by omega, by omega, rfl, by rw [E1.out], by rw [E2.out]⟩
            case measure => simp [intOf]; omega
        · by_cases heq : k = n
          · as_aux_lemma =>
              have E1 := Lib.hid ((by rw [heq]; exact Mc.cA_at : Mc.cA f n (k + 1) = Mc.cA f n k))
              have E2 := Lib.hid ((by rw [heq]; exact Mc.cB_at : Mc.cB n (k + 1) = Mc.cB n k))
              have g1 : decide (n < k) = false := by simp; omega
              have g2 : decide (k < n) = false := by simp; omega
              clear heq
              go_wp2_with (go_at_call 57; first | (refine (cK _).mono ?_; rintro e w' ⟨rfl, rfl⟩) | (refine (cN _).mono ?_; rintro e w' ⟨rfl, rfl⟩))
              go_round
              case rel => exact ⟨k + 1, by omega, by omega, rfl, by rw [E1.out], by rw [E2.out]⟩
              case measure => simp [intOf]; omega
          · have hgt : n < k := by omega
            as_aux_lemma =>
              have E1 := Lib.hid (Mc.cA_gt (f := f) hgt)
              have E2 := Lib.hid (Mc.cB_gt he hgt)
              have g2 : decide (k < n) = false := by simp; omega
              go_wp2_with (go_at_call 57; first | (refine (cK _).mono ?_; rintro e w' ⟨rfl, rfl⟩) | (refine (cN _).mono ?_; rintro e w' ⟨rfl, rfl⟩))
              go_round
              case rel => exact ⟨k + 1, by omega, by omega, rfl, by rw [E1.out], by rw [E2.out]⟩
              case measure => simp [intOf]; omega
      · have hk' : (k % 7 == n % 7) = false := by simpa using he
        as_aux_lemma =>
          have E1 := Lib.hid (Mc.cA_no (f := f) he)
          have E2 := Lib.hid (Mc.cB_no he)
          go_wp2_with (go_at_call 57; first | (refine (cK _).mono ?_; rintro e w' ⟨rfl, rfl⟩) | (refine (cN _).mono ?_; rintro e w' ⟨rfl, rfl⟩))
          go_round
          case rel => exact ⟨k + 1, by omega, by omega, rfl, by rw [E1.out], by rw [E2.out]⟩
          case measure => simp [intOf]; omega
    · obtain rfl : k = f + l := by omega
      have hx := hb.2.1
      rw [Mc.cA_end hx, Mc.cB_end hx] at bd ⊢
      clear cK cN hk k1 k2 hx
      have HN := Lib.hid hd
      have bd2 := bd.2
      have bd1 := bd.1
      clear hd bd
      generalize Mc.ahd f n = a at *
      generalize Mc.bhd f l n = b at *
      have hz : ∀ x y, Mc.onW n a b (x, y) = (y == n % 7 && (x == 0 || x == a || x == -b)) := fun _ _ => rfl
      have cN : ∀ w', Calls Tryz.prog 57 #[.int .i64 n] w' fun e w'' => e = .returned (.int .i64 (n % 7)) ∧ w' = w'' := fun w' => rweekday_any n w' (by omega) (by omega)
      generalize V.day.A = A at *
      generalize V.day.n = m at *
      generalize V.day.c = c at *
      generalize V.r.day = ps at *
      generalize Mc.onW n a b = ow at *
      generalize n % 7 = wd at *
      go_wp2
      go_loopg [75] m (fun g v wx => ∃ j : Nat, v = .int .i64 (j : Int) ∧ j + g = m ∧ Gr wc wx ∧ Hid ((ps.take j).any ow = false))
      case atStart => exact ⟨0, rfl, by omega, Gr.refl _, Lib.hid (by simp)⟩
      case round =>
        obtain ⟨j, rfl, hjg, hg3, HA⟩ := hrel
        have HG := Lib.hid hjg
        clear hjg
        have hm := HN.out
        have e11 := gr_cell hg3 e11
        have hg := hg.trans hg3
        by_cases hj : j < m
        · obtain ⟨ad, hj', rfl, hbl, hc0, hc1⟩ := (HP.out.gr hg).at_ hj
          dsimp only [dv1, dv2] at hc0 hc1
          have HT := Lib.hid (List.take_succ_eq_append_getElem hj')
          have HM := Lib.hid (List.getElem_mem hj')
          have hz := hz ps[j].1 ps[j].2
          have HS : Hid (ow (ps[j].1, ps[j].2) = false → (ps.take (j + 1)).any ow = false) := Lib.hid (fun h => by rw [HT.out, List.any_append, HA.out, List.any_cons, List.any_nil, show ow ps[j] = false from h]; rfl)
          have HY : Hid (ow (ps[j].1, ps[j].2) = true → true = q) := Lib.hid (fun h => by rw [HD.out, List.any_eq_true.2 ⟨_, HM.out, h⟩])
          clear HT HM
          generalize ps[j].1 = x at *
          generalize ps[j].2 = y at *
          generalize ow (x, y) = z at *
          have hgA : Gr wr (wr.alloc (.cells #[.int .i64 x, .int .i64 y] 64)) := (Gr.refl wr).allocO _
          have hgN := hg3.trans hgA
          have hgM := hg.trans hgA
          clear HP HA hl
          rcases hzc : z
          · have HS := Lib.hid (HS.out hzc)
            rw [hzc] at hz
            clear HY
            cases c1 : (y == wd)
            · as_aux_lemma =>
              clear hz
              go_wp2
              go_quiet (first | (go_at_call 57; exact qsame (cN _)))
              go_wp2
              go_roundg (m - (j + 1))
              case measure => have := HG.out; omega
              case rel => exact ⟨j + 1, by go_num, by omega, hgN.drewN _, HS⟩
            rw [c1] at hz
            obtain ⟨c2, c3, c4⟩ := Mc.on_f hz
            as_aux_lemma =>
              clear hz
              go_wp2
              go_quiet (first | (go_at_call 57; exact qsame (cN _)))
              go_wp2
              go_roundg (m - (j + 1))
              case measure => have := HG.out; omega
              case rel => exact ⟨j + 1, by go_num, by omega, hgN.drewN _, HS⟩
          · have HY := Lib.hid (HY.out hzc)
            rw [hzc] at hz
            clear HS
            have c1 : (y == wd) = true := Mc.on_t hz
            rw [c1] at hz
            cases c2 : (x == 0)
            · cases c3 : (x == a)
              · have c4 : (x == -b) = true := by rw [c2, c3] at hz; exact Mc.on_t4 hz
                as_aux_lemma =>
                clear hz
                go_wp2
                go_quiet (first | (go_at_call 57; exact qsame (cN _)))
                go_wp2
                go_ret
                exact ⟨ret_bool HY.out, hgM.drewN _⟩
              · as_aux_lemma =>
                clear hz
                go_wp2
                go_quiet (first | (go_at_call 57; exact qsame (cN _)))
                go_wp2
                go_ret
                exact ⟨ret_bool HY.out, hgM.drewN _⟩
            · as_aux_lemma =>
              clear hz
              go_wp2
              go_quiet (first | (go_at_call 57; exact qsame (cN _)))
              go_wp2
              go_ret
              exact ⟨ret_bool HY.out, hgM.drewN _⟩
        · obtain rfl : j = m := by have := HG.out; omega
          have HQ2 : Hid (false = q) := Lib.hid (by
            have h1 := HA.out
            rw [List.take_of_length_le (by rw [hl]; exact Nat.le_refl _)] at h1
            rw [HD.out, h1])
          go_wp2
          go_ret
          exact ⟨ret_bool HQ2.out, hg⟩
end Go.Proofs.YtmbmkldcedkbmaaGreat
namespace Go.Proofs.YtmbmkldcedkbmaaGreat
open Go.RowKit

set_option maxRecDepth 100000 in
set_option maxHeartbeats 4000000 in
theorem rper_any (V : Rm.Rv) (b n : Int) (w : World) (hs : 0 ≤ V.r.st ∧ V.r.st ≤ 6) (hb : Cal.dayB b = true) (h : Cal.dayB n = true) :
    Calls Tryz.prog 52 #[.agg V.val, .int .i64 b, .int .i64 n] w fun r w' => r = .returned (.int .i64 (Mc.per V.r b n)) ∧ Gr w w' := by
  obtain ⟨s0, s1⟩ := hs
  obtain ⟨n1, n2⟩ := Cal.dayB_iff.1 h
  obtain ⟨b1, b2⟩ := Cal.dayB_iff.1 hb
  have yb := Cal.yr_bd n1 n2
  have yb2 := Cal.yr_bd b1 b2
  have mb : 1 ≤ Cal.mon n ∧ Cal.mon n ≤ 12 := Cal.mo_bd (Cal.yr n) (n - Cal.dby (Cal.yr n))
  have mb2 : 1 ≤ Cal.mon b ∧ Cal.mon b ≤ 12 := Cal.mo_bd (Cal.yr b) (b - Cal.dby (Cal.yr b))
  have hg : Gr w (w.alloc (.cells V.val 27)) := (Gr.refl w).allocO _
  have hbx := RBx.now w V 27
  have e0 := hbx.c0
  have e7 := hbx.c7
  have cB := fun w' => rdate14_any b w' hb
  have cN := fun w' => rdate14_any n w' h
  have HI : Hid (Mc.per V.r b n = if V.r.freq = 1 then n - b else if V.r.freq = 2 then (Mc.beg n V.r.st - Mc.beg b V.r.st) / 7 else if V.r.freq = 3 then 12 * (Cal.yr n - Cal.yr b) + Cal.mon n - Cal.mon b else Cal.yr n - Cal.yr b) := rfl
  obtain ⟨q, hq⟩ : ∃ q, Mc.per V.r b n = q := ⟨_, rfl⟩
  rw [hq] at HI ⊢
  have m1 := Mc.beg_mod (n := n) s0 s1
  have m2 := Mc.beg_mod (n := b) s0 s1
  have m3 := Mc.beg_bd n V.r.st
  have m4 := Mc.beg_bd b V.r.st
  clear hq hbx hb h
  generalize Cal.dom n = dn at *
  generalize Cal.dom b = db at *
  go_enter Tryz.func52, Tryz.ntmps52
  go_wp2_with fail
  refine (cB _).mono ?_
  rintro e w1 ⟨rfl, hg1⟩
  go_wp2_with fail
  refine (cN _).mono ?_
  rintro e w2 ⟨rfl, hg2⟩
  have hg := (hg.trans hg1).trans hg2
  have e0 := gr_cell (hg1.trans hg2) e0
  have e7 := gr_cell (hg1.trans hg2) e7
  go_upto_region 2 with fail
  have hgA : Gr w2 (w2.alloc (.cells #[.int .i64 (Cal.yr b), .int .i64 (Cal.mon b), .int .i64 db] 85)) := (Gr.refl w2).allocO _
  have hgB : Gr (w2.alloc (.cells #[.int .i64 (Cal.yr b), .int .i64 (Cal.mon b), .int .i64 db] 85)) ((w2.alloc (.cells #[.int .i64 (Cal.yr b), .int .i64 (Cal.mon b), .int .i64 db] 85)).alloc (.cells #[.int .i64 (Cal.yr n), .int .i64 (Cal.mon n), .int .i64 dn] 85)) := (Gr.refl _).allocO _
  have hsz : (w2.alloc (.cells #[.int .i64 (Cal.yr b), .int .i64 (Cal.mon b), .int .i64 db] 85)).heap.size = w2.heap.size + 1 := by simp
  obtain ⟨k0, k1, k2⟩ := box3 hgB
  obtain ⟨j0, j1, j2⟩ := box_now (w2.alloc (.cells #[.int .i64 (Cal.yr b), .int .i64 (Cal.mon b), .int .i64 db] 85)) (.int .i64 (Cal.yr n)) (.int .i64 (Cal.mon n)) (.int .i64 dn) 85
  rw [hsz] at j0 j1 j2
  have e0 := gr_cell (hgA.trans hgB) e0
  have e7 := gr_cell (hgA.trans hgB) e7
  have hg := (hg.trans hgA).trans hgB
  clear hgA hgB hsz k2 j2 hg1 hg2 cB cN
  generalize (w2.alloc (.cells #[.int .i64 (Cal.yr b), .int .i64 (Cal.mon b), .int .i64 db] 85)).alloc (.cells #[.int .i64 (Cal.yr n), .int .i64 (Cal.mon n), .int .i64 dn] 85) = W at *
  have td : (Mc.beg n V.r.st - Mc.beg b V.r.st).tdiv 7 = (Mc.beg n V.r.st - Mc.beg b V.r.st) / 7 := Int.tdiv_eq_ediv_of_dvd (Int.dvd_of_emod_eq_zero (by omega))
  generalize V.r.freq = f at *
  by_cases f1 : f = 1
  · as_aux_lemma =>
    subst f1
    rw [if_pos rfl] at HI
    clear e7 k0 k1 j0 j1 td
    go_wp2
    go_ret
    exact ⟨ret_int HI.out.symm, hg⟩
  have g1 : (f == 1) = false := beq_eq_false_iff_ne.2 f1
  rw [if_neg f1] at HI
  by_cases f2 : f = 2
  · as_aux_lemma =>
    subst f2
    rw [if_pos rfl] at HI
    clear k0 k1 j0 j1
    have cG := fun x (x1 : -100000000 ≤ x) (x2 : x ≤ 100000000) w' => rbegin_any x V.r.st w' s0 s1 x1 x2
    generalize V.r.st = s at *
    have t1 : -10000000 ≤ (Mc.beg n s - Mc.beg b s) / 7 ∧ (Mc.beg n s - Mc.beg b s) / 7 ≤ 10000000 := by omega
    have t2 : -10000000 ≤ (Mc.beg n s - Mc.beg b s).tdiv 7 ∧ (Mc.beg n s - Mc.beg b s).tdiv 7 ≤ 10000000 := by rw [td]; exact t1
    have HT := Lib.hid td
    clear td
    go_wp2
    go_quiet (first | (go_at_call 47; exact qsame (cG _ (by omega) (by omega) _)))
    go_wp2
    go_ret
    exact ⟨ret_int (HT.out.trans HI.out.symm), hg.drewN _⟩
  have g2 : (f == 2) = false := beq_eq_false_iff_ne.2 f2
  rw [if_neg f2] at HI
  by_cases f3 : f = 3
  · as_aux_lemma =>
    subst f3
    rw [if_pos rfl] at HI
    clear e7 td
    go_wp2
    go_ret
    exact ⟨ret_int HI.out.symm, hg⟩
  have g3 : (f == 3) = false := beq_eq_false_iff_ne.2 f3
  rw [if_neg f3] at HI
  as_aux_lemma =>
    clear e7 td
    go_wp2
    go_ret
    exact ⟨ret_int HI.out.symm, hg⟩
end Go.Proofs.YtmbmkldcedkbmaaGreat
namespace Go.Proofs.YtmbmkldcedkbmaaGreat
open Go.RowKit

/- a region that is walked in the order of its text, cut behind k operations -/
theorem wpQuiet_app {P : Program} {ops : Array Oper} {C : World → Prop} {Q : Act → Prop} (l2 : List Oper) : ∀ (l1 : List Oper) (a : Act), wpQuiet P ops C (wpQuiet P ops C Q l2) l1 a → wpQuiet P ops C Q (l1 ++ l2) a
  | [], _, h => h
  | o :: l1, a, h => by
    rw [List.cons_append]
    unfold wpQuiet at h ⊢
    split
    · rename_i hw
      rw [if_pos hw] at h
      exact Oper.quiet_mono (wpQuiet_app l2 l1) h
    · rename_i hw
      rw [if_neg hw] at h
      exact wpQuiet_app l2 l1 _ h
theorem wpQuiet_mono {P : Program} {ops : Array Oper} {C : World → Prop} {Q Q' : Act → Prop} (hq : ∀ a, Q a → Q' a) : ∀ (l : List Oper) (a : Act), wpQuiet P ops C Q l a → wpQuiet P ops C Q' l a
  | [], _, h => hq _ h
  | o :: l, a, h => by
    unfold wpQuiet at h ⊢
    split
    · rename_i hw
      rw [if_pos hw] at h
      exact Oper.quiet_mono (wpQuiet_mono hq l) h
    · rename_i hw
      rw [if_neg hw] at h
      exact wpQuiet_mono hq l _ h
theorem wpQuiet_cut {P : Program} {ops : Array Oper} {C : World → Prop} {Q : Act → Prop} {l : List Oper} {a : Act} (k : Nat) (R : Act → Prop) (h1 : wpQuiet P ops C R (l.take k) a) (h2 : ∀ a', R a' → wpQuiet P ops C Q (l.drop k) a') : wpQuiet P ops C Q l a := by
  rw [← List.take_append_drop k l]
  exact wpQuiet_app _ _ _ (wpQuiet_mono h2 _ _ h1)
theorem same_gr {f : FuncId} {args : Array Value} {w : World} {v : Value} (h : Calls Tryz.prog f args w fun e w' => e = .returned v ∧ w = w') : Calls Tryz.prog f args w fun e w' => e = .returned v ∧ Gr w w' :=
  h.mono fun _ _ ⟨h1, h2⟩ => ⟨h1, h2 ▸ Gr.refl _⟩
set_option maxRecDepth 100000 in
set_option maxHeartbeats 16000000 in
theorem rfits14_any (V : Rm.Rv) (b n : Int) (w : World) (hM : RuM w w.heap.size V) (hd : V.day.n ≤ 140737488355328) (hn : ∀ i, i < 8 → (V.sl i).n ≤ 140737488355328) (hf : Rm.fm V.r = true) (hb : Cal.dayB b = true) (h : Cal.dayB n = true) :
    Calls Tryz.prog 29 #[.agg V.val, .int .i64 b, .int .i64 n] w fun e w' => e = .returned (.bool (Mc.fits V.r b n)) ∧ Gr w w' := by
  obtain ⟨f1, ⟨i1, i2⟩, f3⟩ := fm_head hf
  obtain ⟨n1, n2⟩ := Cal.dayB_iff.1 h
  obtain ⟨b1, b2⟩ := Cal.dayB_iff.1 hb
  have yb := Cal.yr_bd n1 n2
  have mb : 1 ≤ Cal.mon n ∧ Cal.mon n ≤ 12 := Cal.mo_bd (Cal.yr n) (n - Cal.dby (Cal.yr n))
  have lb2 := Cal.dim_bd (Cal.yr n) (Cal.mon n)
  obtain ⟨hok, _⟩ := Cal.date_spec h
  obtain ⟨_, _, d1, d2⟩ := Cal.okB_iff.1 hok
  have yl := Mc.ylen_cases (Cal.yr n)
  have yr1 := Mc.year_of n
  have lb := Cal.dby_bdw (a := Cal.yr n) (by omega) (by omega)
  have pb := per_bd f1 f3 hb h
  have hg : Gr w (w.alloc (.cells V.val 27)) := (Gr.refl w).allocO _
  have hbx := RBx.now w V 27
  have ylb : 1 ≤ n - Cal.dby (Cal.yr n) ∧ n - Cal.dby (Cal.yr n) ≤ Mc.ylen (Cal.yr n) := by unfold Mc.ylen; omega
  have cP := fun w' => rper_any V b n w' f3 hb h
  have cB := fun w' => rdate14_any b w' hb
  have cN := fun w' => rdate14_any n w' h
  have cF := fun w' => fixed0_any (Cal.yr n) 1 1 w' (by omega) (by omega) (by omega) (by omega) (by omega) (by omega)
  rw [Mc.num_jan] at cF
  have cY := fun w' => ryear_any (Cal.yr n) w' (by omega) (by omega)
  have cL := fun w' => reflength0 (Cal.yr n) (Cal.mon n) (by omega) (by omega) w'
  have cW := fun x (x1 : -1000000000 ≤ x) (x2 : x ≤ 1000000000) w' => rweekday_any x w' x1 x2
  have c6 := fun w' (g : Gr w w') => rhas_any V.month.A V.month.n V.month.c V.r.month (Cal.mon n) w' ((hM.l 6 (by decide)).gr g) (hn 6 (by decide))
  have c5 := fun w' (g : Gr w w') => rinweek_any V n w' (hM.gr g) f3 (hn 5 (by decide)) h
  have c4 := fun w' (g : Gr w w') => rcnt14_any V.yday.A V.yday.n V.yday.c V.r.yday (n - Cal.dby (Cal.yr n)) (Mc.ylen (Cal.yr n)) w' ((hM.l 4 (by decide)).gr g) (hn 4 (by decide)) (by omega) (by omega) (by omega) (by omega)
  have c3 := fun w' (g : Gr w w') => rcnt14_any V.mday.A V.mday.n V.mday.c V.r.mday (Cal.dom n) (Cal.dim (Cal.yr n) (Cal.mon n)) w' ((hM.l 3 (by decide)).gr g) (hn 3 (by decide)) (by omega) (by omega) (by omega) (by omega)
  have cd := fun w' (g : Gr w w') => ronday_any V n w' (hM.gr g) hd (hn 6 (by decide)) h
  have l3 : V.r.mday.length = V.mday.n := (hM.l 3 (by decide)).1
  have l4 : V.r.yday.length = V.yday.n := (hM.l 4 (by decide)).1
  have l5 : V.r.week.length = V.week.n := (hM.l 5 (by decide)).1
  have l6 : V.r.month.length = V.month.n := (hM.l 6 (by decide)).1
  have ld : V.r.day.length = V.day.n := hM.d.1
  have bd3 : V.mday.n ≤ 140737488355328 := hn 3 (by decide)
  have bd4 : V.yday.n ≤ 140737488355328 := hn 4 (by decide)
  have bd5 : V.week.n ≤ 140737488355328 := hn 5 (by decide)
  have bd6 : V.month.n ≤ 140737488355328 := hn 6 (by decide)
  have bdD : V.day.n ≤ 140737488355328 := hd
  have HI : Hid (Mc.fits V.r b n = (decide (0 ≤ Mc.per V.r b n) && decide (Mc.per V.r b n % V.r.ivl = 0) &&
      ((decide (V.month.n = 0) || Mc.hasB V.r.month (Cal.mon n)) && (decide (V.week.n = 0) || Mc.inW V.r n) && (decide (V.yday.n = 0) || Mc.cntB V.r.yday (n - Cal.dby (Cal.yr n)) (Mc.ylen (Cal.yr n))) && (decide (V.mday.n = 0) || Mc.cntB V.r.mday (Cal.dom n) (Cal.dim (Cal.yr n) (Cal.mon n))) && (decide (V.day.n = 0) || Mc.onD V.r n)) &&
      (!(decide (V.yday.n = 0) && decide (V.mday.n = 0) && decide (V.day.n = 0)) ||
        if V.r.freq = 2 then b % 7 == n % 7 else if V.r.freq = 3 then Cal.dom b == Cal.dom n else if V.r.freq = 4 ∧ V.week.n ≠ 0 then b % 7 == n % 7 else if V.r.freq = 4 then Cal.dom b == Cal.dom n && (!decide (V.month.n = 0) || Cal.mon b == Cal.mon n) else true))) := Lib.hid (by
    unfold Mc.fits Mc.lstB Mc.sml
    rw [emp_len l3, emp_len l4, emp_len l5, emp_len l6, emp_len ld]
    simp only [ne_len l5])
  obtain ⟨q, hq⟩ : ∃ q, Mc.fits V.r b n = q := ⟨_, rfl⟩
  rw [hq] at HI ⊢
  have HX := Lib.hid hbx
  clear hq hM hd hn hf hb h f1 f3 l3 l4 l5 l6 ld d1 d2 hok hbx yr1
  generalize Mc.per V.r b n = p at *
  generalize Mc.hasB V.r.month (Cal.mon n) = z6 at *
  generalize Mc.inW V.r n = z5 at *
  generalize Mc.cntB V.r.yday (n - Cal.dby (Cal.yr n)) (Mc.ylen (Cal.yr n)) = z4 at *
  generalize Mc.cntB V.r.mday (Cal.dom n) (Cal.dim (Cal.yr n) (Cal.mon n)) = z3 at *
  generalize Mc.onD V.r n = zd at *
  generalize Cal.dim (Cal.yr n) (Cal.mon n) = di at *
  have hiv0 : V.r.ivl ≠ 0 := by omega
  go_enter Tryz.func29, Tryz.ntmps29
  go_upto_region 1 with fail
  generalize w.alloc (.cells V.val 27) = W at *
  go_wp2_with (refine wpList_load_rule rfl _ rfl rfl HX.out ?_)
  refine (cP _).mono ?_
  rintro e w1 ⟨rfl, hg1⟩
  have hbx := HX.out.gr hg1
  have hg := hg.trans hg1
  have e1 := hbx.c1
  clear cP hg1 HX
  have HX := Lib.hid hbx
  clear hbx
  go_upto_region 2 with fail
  go_cut [24] from 16 (fun v wx => v = .bool (!(decide (0 ≤ p) && decide (p % V.r.ivl = 0))) ∧ w1 = wx)
  case first =>
    by_cases hp : 0 ≤ p
    · as_aux_lemma =>
      have HE : Hid ((!(p % V.r.ivl == 0)) = !(decide (0 ≤ p) && decide (p % V.r.ivl = 0))) := Lib.hid (by
        congr 1
        rw [decide_eq_true hp, Bool.true_and, Bool.eq_iff_iff, beq_iff_eq, decide_eq_true_eq])
      have tb : -1000 ≤ p.tmod V.r.ivl ∧ p.tmod V.r.ivl ≤ 1000 := by
        have := Int.tmod_lt_of_pos p (b := V.r.ivl) (by omega)
        have := Int.tmod_nonneg V.r.ivl hp
        omega
      have hp2 : decide (p < 0) = false := by simp; omega
      generalize (!(decide (0 ≤ p) && decide (p % V.r.ivl = 0))) = t at *
      generalize V.r.ivl = iv at *
      clear HI HX
      go_wp2
      go_meet
      case rel => exact ⟨by rw [← HE.out]; rfl, rfl⟩
    · as_aux_lemma =>
      have HE : Hid (true = !(decide (0 ≤ p) && decide (p % V.r.ivl = 0))) := Lib.hid (by rw [decide_eq_false hp]; rfl)
      have hp2 : p < 0 := by omega
      clear HI HX
      generalize (!(decide (0 ≤ p) && decide (p % V.r.ivl = 0))) = t at *
      go_wp2
      go_meet
      case rel => exact ⟨by rw [HE.out], rfl⟩
  case rest =>
  obtain ⟨rfl, rfl⟩ := hcut
  generalize (decide (0 ≤ p) && decide (p % V.r.ivl = 0)) = t at *
  rcases t
  · as_aux_lemma =>
    have HE : Hid (false = q) := Lib.hid (by rw [HI.out]; rfl)
    go_wp2
    go_ret
    exact ⟨ret_bool HE.out, hg⟩
  go_wp2_with fail
  refine (cB _).mono ?_
  rintro e w2 ⟨rfl, hg2⟩
  go_wp2_with fail
  refine (cN _).mono ?_
  rintro e w3 ⟨rfl, hg3⟩
  have hgA : Gr w3 (w3.alloc (.cells #[.int .i64 (Cal.yr b), .int .i64 (Cal.mon b), .int .i64 (Cal.dom b)] 85)) := (Gr.refl w3).allocO _
  have hgB : Gr (w3.alloc (.cells #[.int .i64 (Cal.yr b), .int .i64 (Cal.mon b), .int .i64 (Cal.dom b)] 85)) ((w3.alloc (.cells #[.int .i64 (Cal.yr b), .int .i64 (Cal.mon b), .int .i64 (Cal.dom b)] 85)).alloc (.cells #[.int .i64 (Cal.yr n), .int .i64 (Cal.mon n), .int .i64 (Cal.dom n)] 85)) := (Gr.refl _).allocO _
  have hsz : (w3.alloc (.cells #[.int .i64 (Cal.yr b), .int .i64 (Cal.mon b), .int .i64 (Cal.dom b)] 85)).heap.size = w3.heap.size + 1 := by simp
  obtain ⟨j0, j1, j2⟩ := box3 hgB
  obtain ⟨k0, k1, k2⟩ := box_now (w3.alloc (.cells #[.int .i64 (Cal.yr b), .int .i64 (Cal.mon b), .int .i64 (Cal.dom b)] 85)) (.int .i64 (Cal.yr n)) (.int .i64 (Cal.mon n)) (.int .i64 (Cal.dom n)) 85
  rw [hsz] at k0 k1 k2
  have hbx := HX.out.gr (((hg2.trans hg3).trans hgA).trans hgB)
  have hg := (((hg.trans hg2).trans hg3).trans hgA).trans hgB
  clear hgA hgB hsz j0 hg2 hg3 cB cN HX e1
  have e0 := hbx.c0
  have e11 := hbx.c11
  have e12 := hbx.c12
  have e13 := hbx.c13
  have e14 := hbx.c14
  have e15 := hbx.c15
  have HX := Lib.hid hbx
  clear hbx
  go_upto_region 5 with fail
  generalize (w3.alloc (.cells #[.int .i64 (Cal.yr b), .int .i64 (Cal.mon b), .int .i64 (Cal.dom b)] 85)).alloc (.cells #[.int .i64 (Cal.yr n), .int .i64 (Cal.mon n), .int .i64 (Cal.dom n)] 85) = W2 at *
  go_upto_region 6 with (go_at_call 50; refine (cF _).mono ?_; rintro e w' ⟨rfl, rfl⟩)
  have HJ : Hid (q = (((decide (V.month.n = 0) || z6) && (decide (V.week.n = 0) || z5) && (decide (V.yday.n = 0) || z4) && (decide (V.mday.n = 0) || z3) && (decide (V.day.n = 0) || zd)) &&
      (!(decide (V.yday.n = 0) && decide (V.mday.n = 0) && decide (V.day.n = 0)) ||
        if V.r.freq = 2 then b % 7 == n % 7 else if V.r.freq = 3 then Cal.dom b == Cal.dom n else if V.r.freq = 4 ∧ V.week.n ≠ 0 then b % 7 == n % 7 else if V.r.freq = 4 then Cal.dom b == Cal.dom n && (!decide (V.month.n = 0) || Cal.mon b == Cal.mon n) else true))) := Lib.hid (by rw [HI.out, Bool.true_and])
  clear HI
  have hor : ∀ (m : Nat) (z : Bool), (m = 0 → (decide (m = 0) || z) = true) ∧ (m ≠ 0 → (decide (m = 0) || z) = z) := fun m z => ⟨fun e => by rw [decide_eq_true e]; rfl, fun e => by rw [decide_eq_false e]; rfl⟩
  have HB6 := Lib.hid (hor V.month.n z6)
  have HB5 := Lib.hid (hor V.week.n z5)
  have HB4 := Lib.hid (hor V.yday.n z4)
  have HB3 := Lib.hid (hor V.mday.n z3)
  have HBd := Lib.hid (hor V.day.n zd)
  clear hor
  generalize (decide (V.month.n = 0) || z6) = b6 at *
  generalize (decide (V.week.n = 0) || z5) = b5 at *
  generalize (decide (V.yday.n = 0) || z4) = b4 at *
  generalize (decide (V.mday.n = 0) || z3) = b3 at *
  generalize (decide (V.day.n = 0) || zd) = bd at *
  generalize V.month.n = m6 at *
  generalize V.week.n = m5 at *
  generalize V.yday.n = m4 at *
  generalize V.mday.n = m3 at *
  generalize V.day.n = md at *
  generalize V.month.A = A6 at *
  generalize V.week.A = A5 at *
  generalize V.yday.A = A4 at *
  generalize V.mday.A = A3 at *
  generalize V.day.A = Ad at *
  generalize V.month.c = x6 at *
  generalize V.week.c = x5 at *
  generalize V.yday.c = x4 at *
  generalize V.mday.c = x3 at *
  generalize V.day.c = xd at *
  have hdn : n - (Cal.dby (Cal.yr n) + 1) + 1 = n - Cal.dby (Cal.yr n) := by omega
  obtain ⟨t, ht⟩ : ∃ t, (!(b6 && b5 && b4 && b3 && bd)) = t := ⟨_, rfl⟩
  have hI := Lib.hid (And.intro pb yb)
  rw [← hdn] at c4
  go_cut [105] from 35 (fun v wx => v = .bool t ∧ Gr W2 wx)
  case first =>
    clear HJ j1 j2 e0 cW hdn
    have hx := after_rule HX.out
    have e11 := after_cell e11
    have e12 := after_cell e12
    have e13 := after_cell e13
    have e14 := after_cell e14
    have e15 := after_cell e15
    have k0 := after_cell k0
    have k1 := after_cell k1
    have k2 := after_cell k2
    have q6 := fun w' (g : Gr w w') => same_gr (c6 w' g)
    have q4 := fun w' (g : Gr w w') => same_gr (c4 w' g)
    have q3 := fun w' (g : Gr w w') => same_gr (c3 w' g)
    have qY := fun w' => same_gr (cY w')
    have qL := fun w' => same_gr (cL w')
    obtain ⟨T1, hT1⟩ : ∃ T, (false || !b6) = T := ⟨_, rfl⟩
    obtain ⟨T2, hT2⟩ : ∃ T, (T1 || !b5) = T := ⟨_, rfl⟩
    obtain ⟨T3, hT3⟩ : ∃ T, (T2 || !b4) = T := ⟨_, rfl⟩
    obtain ⟨T4, hT4⟩ : ∃ T, (T3 || !b3) = T := ⟨_, rfl⟩
    obtain ⟨T5, hT5⟩ : ∃ T, (T4 || !bd) = T := ⟨_, rfl⟩
    have hT : T5 = t := by
      rw [← ht, ← hT5, ← hT4, ← hT3, ← hT2, ← hT1]
      simp [Bool.not_and]
    have HT := Lib.hid hT
    clear hT ht c6 c4 c3 cY cL
    dsimp only [List.append]
    refine wp_region_after (by kernel_rfl) (by kernel_rfl) ?_
    refine wpQuiet_cut 12 (fun a' => ∃ (v35 v36 v37 v38 v39 v40 v41 v42 v43 v44 v45 : Value), a' = { tmps := #[.agg V.val, .int .i64 b, .int .i64 n, .pointer (some ⟨w.heap.size, 0, none⟩), undef, undef, .bool false, .int .i64 p, .pointer (some ⟨w3.heap.size, 0, none⟩), .pointer (some ⟨w3.heap.size + 1, 0, none⟩), .int .i64 (n - (Cal.dby (Cal.yr n) + 1) + 1), undef, .agg V.val, .int .i64 b, .int .i64 n, .int .i64 p, u16, u17, u18, u19, u20, u21, u22, u23, .bool false, .int .i64 b, .agg #[.int .i64 (Cal.yr b), .int .i64 (Cal.mon b), .int .i64 (Cal.dom b)], .int .i64 n, .agg #[.int .i64 (Cal.yr n), .int .i64 (Cal.mon n), .int .i64 (Cal.dom n)], .int .i64 n, .pointer (some ⟨w3.heap.size + 1, 0, none⟩), .int .i64 (Cal.yr n), .int .i64 (Cal.dby (Cal.yr n) + 1), .int .i64 (n - (Cal.dby (Cal.yr n) + 1)), .int .i64 (n - (Cal.dby (Cal.yr n) + 1) + 1), v35, v36, v37, v38, v39, v40, v41, v42, v43, v44, v45, .bool T1, u47, u48, u49, u50, u51, u52, u53, u54, u55, u56, u57, u58, u59, u60, u61, u62, u63, u64, u65, u66, u67, u68, u69, u70, u71, u72, u73, u74, u75, u76, u77, u78, u79, u80, u81, u82, u83, u84, u85, u86, u87, u88, u89, u90, u91, u92, u93, u94, u95, u96, u97, u98, u99, u100, u101, u102, u103, u104, u105, u106, u107, u108, u109, u110, u111, u112, u113, u114, u115, u116, u117, u118, u119, u120, u121, u122, u123, u124, u125, u126, u127, u128, u129, u130, u131, u132, u133, u134, u135, u136, u137, u138, u139, u140, u141, u142, u143, u144, u145, u146, u147, u148, u149, u150, u151, u152, u153, u154, u155, u156, u157, u158, u159, u160, u161, u162, u163, u164, u165, u166, u167, u168, u169], defers := [] }) ?_ ?_
    · simp only [List.take_succ_cons, List.take_zero]
      rcases Nat.eq_zero_or_pos m6 with h | h
      · as_aux_lemma =>
        obtain rfl : T1 = false := by rw [← hT1, HB6.out.1 h]; rfl
        subst h
        repeat (first | (go_big_quiet_want; (refine quiet_rule _ rfl rfl hx ?_); (try simp only [Act.put, List.setIfInBounds_toArray, List.set_cons_zero, List.set_cons_succ]); go_big_quiet_on) | go_big_quiet_step (first | (go_at_call 53; exact qafter (q6 _ (hg.trans (by exact (After.gr _)))))))
        refine wpQuiet_nil ?_
        exact ⟨_, _, _, _, _, _, _, _, _, _, _, rfl⟩
      · as_aux_lemma =>
        obtain rfl : T1 = !z6 := by rw [← hT1, HB6.out.2 (by omega), Bool.false_or]
        have hp : (0 : Int) < (m6 : Int) := by omega
        repeat (first | (go_big_quiet_want; (refine quiet_rule _ rfl rfl hx ?_); (try simp only [Act.put, List.setIfInBounds_toArray, List.set_cons_zero, List.set_cons_succ]); go_big_quiet_on) | go_big_quiet_step (first | (go_at_call 53; exact qafter (q6 _ (hg.trans (by exact (After.gr _)))))))
        refine wpQuiet_nil ?_
        exact ⟨_, _, _, _, _, _, _, _, _, _, _, rfl⟩
    simp only [List.drop_succ_cons, List.drop_zero]
    rintro _ ⟨v35, v36, v37, v38, v39, v40, v41, v42, v43, v44, v45, rfl⟩
    refine wpQuiet_cut 12 (fun a' => ∃ (v35 v36 v37 v38 v39 v40 v41 v42 v43 v44 v45 v46 v47 v48 v49 v50 v51 v52 v53 v54 v55 v56 v57 : Value), a' = { tmps := #[.agg V.val, .int .i64 b, .int .i64 n, .pointer (some ⟨w.heap.size, 0, none⟩), undef, undef, .bool false, .int .i64 p, .pointer (some ⟨w3.heap.size, 0, none⟩), .pointer (some ⟨w3.heap.size + 1, 0, none⟩), .int .i64 (n - (Cal.dby (Cal.yr n) + 1) + 1), undef, .agg V.val, .int .i64 b, .int .i64 n, .int .i64 p, u16, u17, u18, u19, u20, u21, u22, u23, .bool false, .int .i64 b, .agg #[.int .i64 (Cal.yr b), .int .i64 (Cal.mon b), .int .i64 (Cal.dom b)], .int .i64 n, .agg #[.int .i64 (Cal.yr n), .int .i64 (Cal.mon n), .int .i64 (Cal.dom n)], .int .i64 n, .pointer (some ⟨w3.heap.size + 1, 0, none⟩), .int .i64 (Cal.yr n), .int .i64 (Cal.dby (Cal.yr n) + 1), .int .i64 (n - (Cal.dby (Cal.yr n) + 1)), .int .i64 (n - (Cal.dby (Cal.yr n) + 1) + 1), v35, v36, v37, v38, v39, v40, v41, v42, v43, v44, v45, v46, v47, v48, v49, v50, v51, v52, v53, v54, v55, v56, v57, .bool T2, u59, u60, u61, u62, u63, u64, u65, u66, u67, u68, u69, u70, u71, u72, u73, u74, u75, u76, u77, u78, u79, u80, u81, u82, u83, u84, u85, u86, u87, u88, u89, u90, u91, u92, u93, u94, u95, u96, u97, u98, u99, u100, u101, u102, u103, u104, u105, u106, u107, u108, u109, u110, u111, u112, u113, u114, u115, u116, u117, u118, u119, u120, u121, u122, u123, u124, u125, u126, u127, u128, u129, u130, u131, u132, u133, u134, u135, u136, u137, u138, u139, u140, u141, u142, u143, u144, u145, u146, u147, u148, u149, u150, u151, u152, u153, u154, u155, u156, u157, u158, u159, u160, u161, u162, u163, u164, u165, u166, u167, u168, u169], defers := [] }) ?_ ?_
    · simp only [List.take_succ_cons, List.take_zero]
      rcases T1
      case true =>
        as_aux_lemma =>
        obtain rfl : T2 = true := by rw [← hT2]; rfl
        repeat (first | (go_big_quiet_want; (refine quiet_rule _ rfl rfl hx ?_); (try simp only [Act.put, List.setIfInBounds_toArray, List.set_cons_zero, List.set_cons_succ]); go_big_quiet_on) | go_big_quiet_step (first | (go_at_call 54; exact qafter (c5 _ (hg.trans (by exact (After.gr _)))))))
        refine wpQuiet_nil ?_
        exact ⟨_, _, _, _, _, _, _, _, _, _, _, _, _, _, _, _, _, _, _, _, _, _, _, rfl⟩
      rcases Nat.eq_zero_or_pos m5 with h | h
      · as_aux_lemma =>
        obtain rfl : T2 = false := by rw [← hT2, HB5.out.1 h]; rfl
        subst h
        repeat (first | (go_big_quiet_want; (refine quiet_rule _ rfl rfl hx ?_); (try simp only [Act.put, List.setIfInBounds_toArray, List.set_cons_zero, List.set_cons_succ]); go_big_quiet_on) | go_big_quiet_step (first | (go_at_call 54; exact qafter (c5 _ (hg.trans (by exact (After.gr _)))))))
        refine wpQuiet_nil ?_
        exact ⟨_, _, _, _, _, _, _, _, _, _, _, _, _, _, _, _, _, _, _, _, _, _, _, rfl⟩
      · as_aux_lemma =>
        obtain rfl : T2 = !z5 := by rw [← hT2, HB5.out.2 (by omega), Bool.false_or]
        have hp : (0 : Int) < (m5 : Int) := by omega
        repeat (first | (go_big_quiet_want; (refine quiet_rule _ rfl rfl hx ?_); (try simp only [Act.put, List.setIfInBounds_toArray, List.set_cons_zero, List.set_cons_succ]); go_big_quiet_on) | go_big_quiet_step (first | (go_at_call 54; exact qafter (c5 _ (hg.trans (by exact (After.gr _)))))))
        refine wpQuiet_nil ?_
        exact ⟨_, _, _, _, _, _, _, _, _, _, _, _, _, _, _, _, _, _, _, _, _, _, _, rfl⟩
    simp only [List.drop_succ_cons, List.drop_zero]
    rintro _ ⟨v35, v36, v37, v38, v39, v40, v41, v42, v43, v44, v45, v46, v47, v48, v49, v50, v51, v52, v53, v54, v55, v56, v57, rfl⟩
    refine wpQuiet_cut 16 (fun a' => ∃ (v35 v36 v37 v38 v39 v40 v41 v42 v43 v44 v45 v46 v47 v48 v49 v50 v51 v52 v53 v54 v55 v56 v57 v58 v59 v60 v61 v62 v63 v64 v65 v66 v67 v68 v69 v70 v71 v72 v73 : Value), a' = { tmps := #[.agg V.val, .int .i64 b, .int .i64 n, .pointer (some ⟨w.heap.size, 0, none⟩), undef, undef, .bool false, .int .i64 p, .pointer (some ⟨w3.heap.size, 0, none⟩), .pointer (some ⟨w3.heap.size + 1, 0, none⟩), .int .i64 (n - (Cal.dby (Cal.yr n) + 1) + 1), undef, .agg V.val, .int .i64 b, .int .i64 n, .int .i64 p, u16, u17, u18, u19, u20, u21, u22, u23, .bool false, .int .i64 b, .agg #[.int .i64 (Cal.yr b), .int .i64 (Cal.mon b), .int .i64 (Cal.dom b)], .int .i64 n, .agg #[.int .i64 (Cal.yr n), .int .i64 (Cal.mon n), .int .i64 (Cal.dom n)], .int .i64 n, .pointer (some ⟨w3.heap.size + 1, 0, none⟩), .int .i64 (Cal.yr n), .int .i64 (Cal.dby (Cal.yr n) + 1), .int .i64 (n - (Cal.dby (Cal.yr n) + 1)), .int .i64 (n - (Cal.dby (Cal.yr n) + 1) + 1), v35, v36, v37, v38, v39, v40, v41, v42, v43, v44, v45, v46, v47, v48, v49, v50, v51, v52, v53, v54, v55, v56, v57, v58, v59, v60, v61, v62, v63, v64, v65, v66, v67, v68, v69, v70, v71, v72, v73, .bool T3, u75, u76, u77, u78, u79, u80, u81, u82, u83, u84, u85, u86, u87, u88, u89, u90, u91, u92, u93, u94, u95, u96, u97, u98, u99, u100, u101, u102, u103, u104, u105, u106, u107, u108, u109, u110, u111, u112, u113, u114, u115, u116, u117, u118, u119, u120, u121, u122, u123, u124, u125, u126, u127, u128, u129, u130, u131, u132, u133, u134, u135, u136, u137, u138, u139, u140, u141, u142, u143, u144, u145, u146, u147, u148, u149, u150, u151, u152, u153, u154, u155, u156, u157, u158, u159, u160, u161, u162, u163, u164, u165, u166, u167, u168, u169], defers := [] }) ?_ ?_
    · simp only [List.take_succ_cons, List.take_zero]
      rcases T2
      case true =>
        as_aux_lemma =>
        obtain rfl : T3 = true := by rw [← hT3]; rfl
        repeat (first | (go_big_quiet_want; (refine quiet_rule _ rfl rfl hx ?_); (try simp only [Act.put, List.setIfInBounds_toArray, List.set_cons_zero, List.set_cons_succ]); go_big_quiet_on) | go_big_quiet_step (first | (go_at_call 55; exact qafter (qY _)) | (go_at_call 30; exact qafter (q4 _ (hg.trans (by exact (After.gr _)))))))
        refine wpQuiet_nil ?_
        exact ⟨_, _, _, _, _, _, _, _, _, _, _, _, _, _, _, _, _, _, _, _, _, _, _, _, _, _, _, _, _, _, _, _, _, _, _, _, _, _, _, rfl⟩
      rcases Nat.eq_zero_or_pos m4 with h | h
      · as_aux_lemma =>
        obtain rfl : T3 = false := by rw [← hT3, HB4.out.1 h]; rfl
        subst h
        repeat (first | (go_big_quiet_want; (refine quiet_rule _ rfl rfl hx ?_); (try simp only [Act.put, List.setIfInBounds_toArray, List.set_cons_zero, List.set_cons_succ]); go_big_quiet_on) | go_big_quiet_step (first | (go_at_call 55; exact qafter (qY _)) | (go_at_call 30; exact qafter (q4 _ (hg.trans (by exact (After.gr _)))))))
        refine wpQuiet_nil ?_
        exact ⟨_, _, _, _, _, _, _, _, _, _, _, _, _, _, _, _, _, _, _, _, _, _, _, _, _, _, _, _, _, _, _, _, _, _, _, _, _, _, _, rfl⟩
      · as_aux_lemma =>
        obtain rfl : T3 = !z4 := by rw [← hT3, HB4.out.2 (by omega), Bool.false_or]
        have hp : (0 : Int) < (m4 : Int) := by omega
        repeat (first | (go_big_quiet_want; (refine quiet_rule _ rfl rfl hx ?_); (try simp only [Act.put, List.setIfInBounds_toArray, List.set_cons_zero, List.set_cons_succ]); go_big_quiet_on) | go_big_quiet_step (first | (go_at_call 55; exact qafter (qY _)) | (go_at_call 30; exact qafter (q4 _ (hg.trans (by exact (After.gr _)))))))
        refine wpQuiet_nil ?_
        exact ⟨_, _, _, _, _, _, _, _, _, _, _, _, _, _, _, _, _, _, _, _, _, _, _, _, _, _, _, _, _, _, _, _, _, _, _, _, _, _, _, rfl⟩
    simp only [List.drop_succ_cons, List.drop_zero]
    rintro _ ⟨v35, v36, v37, v38, v39, v40, v41, v42, v43, v44, v45, v46, v47, v48, v49, v50, v51, v52, v53, v54, v55, v56, v57, v58, v59, v60, v61, v62, v63, v64, v65, v66, v67, v68, v69, v70, v71, v72, v73, rfl⟩
    refine wpQuiet_cut 19 (fun a' => ∃ (v35 v36 v37 v38 v39 v40 v41 v42 v43 v44 v45 v46 v47 v48 v49 v50 v51 v52 v53 v54 v55 v56 v57 v58 v59 v60 v61 v62 v63 v64 v65 v66 v67 v68 v69 v70 v71 v72 v73 v74 v75 v76 v77 v78 v79 v80 v81 v82 v83 v84 v85 v86 v87 v88 v89 v90 v91 v92 : Value), a' = { tmps := #[.agg V.val, .int .i64 b, .int .i64 n, .pointer (some ⟨w.heap.size, 0, none⟩), undef, undef, .bool false, .int .i64 p, .pointer (some ⟨w3.heap.size, 0, none⟩), .pointer (some ⟨w3.heap.size + 1, 0, none⟩), .int .i64 (n - (Cal.dby (Cal.yr n) + 1) + 1), undef, .agg V.val, .int .i64 b, .int .i64 n, .int .i64 p, u16, u17, u18, u19, u20, u21, u22, u23, .bool false, .int .i64 b, .agg #[.int .i64 (Cal.yr b), .int .i64 (Cal.mon b), .int .i64 (Cal.dom b)], .int .i64 n, .agg #[.int .i64 (Cal.yr n), .int .i64 (Cal.mon n), .int .i64 (Cal.dom n)], .int .i64 n, .pointer (some ⟨w3.heap.size + 1, 0, none⟩), .int .i64 (Cal.yr n), .int .i64 (Cal.dby (Cal.yr n) + 1), .int .i64 (n - (Cal.dby (Cal.yr n) + 1)), .int .i64 (n - (Cal.dby (Cal.yr n) + 1) + 1), v35, v36, v37, v38, v39, v40, v41, v42, v43, v44, v45, v46, v47, v48, v49, v50, v51, v52, v53, v54, v55, v56, v57, v58, v59, v60, v61, v62, v63, v64, v65, v66, v67, v68, v69, v70, v71, v72, v73, v74, v75, v76, v77, v78, v79, v80, v81, v82, v83, v84, v85, v86, v87, v88, v89, v90, v91, v92, .bool T4, u94, u95, u96, u97, u98, u99, u100, u101, u102, u103, u104, u105, u106, u107, u108, u109, u110, u111, u112, u113, u114, u115, u116, u117, u118, u119, u120, u121, u122, u123, u124, u125, u126, u127, u128, u129, u130, u131, u132, u133, u134, u135, u136, u137, u138, u139, u140, u141, u142, u143, u144, u145, u146, u147, u148, u149, u150, u151, u152, u153, u154, u155, u156, u157, u158, u159, u160, u161, u162, u163, u164, u165, u166, u167, u168, u169], defers := [] }) ?_ ?_
    · simp only [List.take_succ_cons, List.take_zero]
      rcases T3
      case true =>
        as_aux_lemma =>
        obtain rfl : T4 = true := by rw [← hT4]; rfl
        repeat (first | (go_big_quiet_want; (refine quiet_rule _ rfl rfl hx ?_); (try simp only [Act.put, List.setIfInBounds_toArray, List.set_cons_zero, List.set_cons_succ]); go_big_quiet_on) | go_big_quiet_step (first | (go_at_call 51; exact qafter (qL _)) | (go_at_call 30; exact qafter (q3 _ (hg.trans (by exact (After.gr _)))))))
        refine wpQuiet_nil ?_
        exact ⟨_, _, _, _, _, _, _, _, _, _, _, _, _, _, _, _, _, _, _, _, _, _, _, _, _, _, _, _, _, _, _, _, _, _, _, _, _, _, _, _, _, _, _, _, _, _, _, _, _, _, _, _, _, _, _, _, _, _, rfl⟩
      rcases Nat.eq_zero_or_pos m3 with h | h
      · as_aux_lemma =>
        obtain rfl : T4 = false := by rw [← hT4, HB3.out.1 h]; rfl
        subst h
        repeat (first | (go_big_quiet_want; (refine quiet_rule _ rfl rfl hx ?_); (try simp only [Act.put, List.setIfInBounds_toArray, List.set_cons_zero, List.set_cons_succ]); go_big_quiet_on) | go_big_quiet_step (first | (go_at_call 51; exact qafter (qL _)) | (go_at_call 30; exact qafter (q3 _ (hg.trans (by exact (After.gr _)))))))
        refine wpQuiet_nil ?_
        exact ⟨_, _, _, _, _, _, _, _, _, _, _, _, _, _, _, _, _, _, _, _, _, _, _, _, _, _, _, _, _, _, _, _, _, _, _, _, _, _, _, _, _, _, _, _, _, _, _, _, _, _, _, _, _, _, _, _, _, _, rfl⟩
      · as_aux_lemma =>
        obtain rfl : T4 = !z3 := by rw [← hT4, HB3.out.2 (by omega), Bool.false_or]
        have hp : (0 : Int) < (m3 : Int) := by omega
        repeat (first | (go_big_quiet_want; (refine quiet_rule _ rfl rfl hx ?_); (try simp only [Act.put, List.setIfInBounds_toArray, List.set_cons_zero, List.set_cons_succ]); go_big_quiet_on) | go_big_quiet_step (first | (go_at_call 51; exact qafter (qL _)) | (go_at_call 30; exact qafter (q3 _ (hg.trans (by exact (After.gr _)))))))
        refine wpQuiet_nil ?_
        exact ⟨_, _, _, _, _, _, _, _, _, _, _, _, _, _, _, _, _, _, _, _, _, _, _, _, _, _, _, _, _, _, _, _, _, _, _, _, _, _, _, _, _, _, _, _, _, _, _, _, _, _, _, _, _, _, _, _, _, _, rfl⟩
    simp only [List.drop_succ_cons, List.drop_zero]
    rintro _ ⟨v35, v36, v37, v38, v39, v40, v41, v42, v43, v44, v45, v46, v47, v48, v49, v50, v51, v52, v53, v54, v55, v56, v57, v58, v59, v60, v61, v62, v63, v64, v65, v66, v67, v68, v69, v70, v71, v72, v73, v74, v75, v76, v77, v78, v79, v80, v81, v82, v83, v84, v85, v86, v87, v88, v89, v90, v91, v92, rfl⟩
    refine wpQuiet_cut 12 (fun a' => ∃ (v35 v36 v37 v38 v39 v40 v41 v42 v43 v44 v45 v46 v47 v48 v49 v50 v51 v52 v53 v54 v55 v56 v57 v58 v59 v60 v61 v62 v63 v64 v65 v66 v67 v68 v69 v70 v71 v72 v73 v74 v75 v76 v77 v78 v79 v80 v81 v82 v83 v84 v85 v86 v87 v88 v89 v90 v91 v92 v93 v94 v95 v96 v97 v98 v99 v100 v101 v102 v103 v104 : Value), a' = { tmps := #[.agg V.val, .int .i64 b, .int .i64 n, .pointer (some ⟨w.heap.size, 0, none⟩), undef, undef, .bool false, .int .i64 p, .pointer (some ⟨w3.heap.size, 0, none⟩), .pointer (some ⟨w3.heap.size + 1, 0, none⟩), .int .i64 (n - (Cal.dby (Cal.yr n) + 1) + 1), undef, .agg V.val, .int .i64 b, .int .i64 n, .int .i64 p, u16, u17, u18, u19, u20, u21, u22, u23, .bool false, .int .i64 b, .agg #[.int .i64 (Cal.yr b), .int .i64 (Cal.mon b), .int .i64 (Cal.dom b)], .int .i64 n, .agg #[.int .i64 (Cal.yr n), .int .i64 (Cal.mon n), .int .i64 (Cal.dom n)], .int .i64 n, .pointer (some ⟨w3.heap.size + 1, 0, none⟩), .int .i64 (Cal.yr n), .int .i64 (Cal.dby (Cal.yr n) + 1), .int .i64 (n - (Cal.dby (Cal.yr n) + 1)), .int .i64 (n - (Cal.dby (Cal.yr n) + 1) + 1), v35, v36, v37, v38, v39, v40, v41, v42, v43, v44, v45, v46, v47, v48, v49, v50, v51, v52, v53, v54, v55, v56, v57, v58, v59, v60, v61, v62, v63, v64, v65, v66, v67, v68, v69, v70, v71, v72, v73, v74, v75, v76, v77, v78, v79, v80, v81, v82, v83, v84, v85, v86, v87, v88, v89, v90, v91, v92, v93, v94, v95, v96, v97, v98, v99, v100, v101, v102, v103, v104, .bool T5, u106, u107, u108, u109, u110, u111, u112, u113, u114, u115, u116, u117, u118, u119, u120, u121, u122, u123, u124, u125, u126, u127, u128, u129, u130, u131, u132, u133, u134, u135, u136, u137, u138, u139, u140, u141, u142, u143, u144, u145, u146, u147, u148, u149, u150, u151, u152, u153, u154, u155, u156, u157, u158, u159, u160, u161, u162, u163, u164, u165, u166, u167, u168, u169], defers := [] }) ?_ ?_
    · simp only [List.take_succ_cons, List.take_zero]
      rcases T4
      case true =>
        as_aux_lemma =>
        obtain rfl : T5 = true := by rw [← hT5]; rfl
        repeat (first | (go_big_quiet_want; (refine quiet_rule _ rfl rfl hx ?_); (try simp only [Act.put, List.setIfInBounds_toArray, List.set_cons_zero, List.set_cons_succ]); go_big_quiet_on) | go_big_quiet_step (first | (go_at_call 56; exact qafter (cd _ (hg.trans (by exact (After.gr _)))))))
        refine wpQuiet_nil ?_
        exact ⟨_, _, _, _, _, _, _, _, _, _, _, _, _, _, _, _, _, _, _, _, _, _, _, _, _, _, _, _, _, _, _, _, _, _, _, _, _, _, _, _, _, _, _, _, _, _, _, _, _, _, _, _, _, _, _, _, _, _, _, _, _, _, _, _, _, _, _, _, _, _, rfl⟩
      rcases Nat.eq_zero_or_pos md with h | h
      · as_aux_lemma =>
        obtain rfl : T5 = false := by rw [← hT5, HBd.out.1 h]; rfl
        subst h
        repeat (first | (go_big_quiet_want; (refine quiet_rule _ rfl rfl hx ?_); (try simp only [Act.put, List.setIfInBounds_toArray, List.set_cons_zero, List.set_cons_succ]); go_big_quiet_on) | go_big_quiet_step (first | (go_at_call 56; exact qafter (cd _ (hg.trans (by exact (After.gr _)))))))
        refine wpQuiet_nil ?_
        exact ⟨_, _, _, _, _, _, _, _, _, _, _, _, _, _, _, _, _, _, _, _, _, _, _, _, _, _, _, _, _, _, _, _, _, _, _, _, _, _, _, _, _, _, _, _, _, _, _, _, _, _, _, _, _, _, _, _, _, _, _, _, _, _, _, _, _, _, _, _, _, _, rfl⟩
      · as_aux_lemma =>
        obtain rfl : T5 = !zd := by rw [← hT5, HBd.out.2 (by omega), Bool.false_or]
        have hp : (0 : Int) < (md : Int) := by omega
        repeat (first | (go_big_quiet_want; (refine quiet_rule _ rfl rfl hx ?_); (try simp only [Act.put, List.setIfInBounds_toArray, List.set_cons_zero, List.set_cons_succ]); go_big_quiet_on) | go_big_quiet_step (first | (go_at_call 56; exact qafter (cd _ (hg.trans (by exact (After.gr _)))))))
        refine wpQuiet_nil ?_
        exact ⟨_, _, _, _, _, _, _, _, _, _, _, _, _, _, _, _, _, _, _, _, _, _, _, _, _, _, _, _, _, _, _, _, _, _, _, _, _, _, _, _, _, _, _, _, _, _, _, _, _, _, _, _, _, _, _, _, _, _, _, _, _, _, _, _, _, _, _, _, _, _, rfl⟩
    simp only [List.drop_succ_cons, List.drop_zero]
    rintro _ ⟨v35, v36, v37, v38, v39, v40, v41, v42, v43, v44, v45, v46, v47, v48, v49, v50, v51, v52, v53, v54, v55, v56, v57, v58, v59, v60, v61, v62, v63, v64, v65, v66, v67, v68, v69, v70, v71, v72, v73, v74, v75, v76, v77, v78, v79, v80, v81, v82, v83, v84, v85, v86, v87, v88, v89, v90, v91, v92, v93, v94, v95, v96, v97, v98, v99, v100, v101, v102, v103, v104, rfl⟩
    refine wpQuiet_nil ?_
    rintro _ ⟨⟨w6, hg6⟩, rfl⟩
    go_wp2
    go_meet
    case rel => exact ⟨by rw [HT.out], hg6⟩
  case rest =>
  obtain ⟨rfl, hgX⟩ := hcut
  have e0 := gr_cell hgX e0
  have e11 := gr_cell hgX e11
  have e12 := gr_cell hgX e12
  have e13 := gr_cell hgX e13
  have e14 := gr_cell hgX e14
  have e15 := gr_cell hgX e15
  have j1 := gr_cell hgX j1
  have j2 := gr_cell hgX j2
  have k1 := gr_cell hgX k1
  have k2 := gr_cell hgX k2
  have hg := hg.trans hgX
  clear HX k0 hgX c6 c5 c4 c3 cd cL cY HB6 HB5 HB4 HB3 HBd
  have HQ : Hid (q = ((!t) && (!(decide (m4 = 0) && decide (m3 = 0) && decide (md = 0)) ||
        if V.r.freq = 2 then b % 7 == n % 7 else if V.r.freq = 3 then Cal.dom b == Cal.dom n else if V.r.freq = 4 ∧ m5 ≠ 0 then b % 7 == n % 7 else if V.r.freq = 4 then Cal.dom b == Cal.dom n && (!decide (m6 = 0) || Cal.mon b == Cal.mon n) else true))) := Lib.hid (by rw [HJ.out, ← ht, Bool.not_not])
  clear HJ ht
  rcases t
  case true =>
    as_aux_lemma =>
    have HE : Hid (false = q) := Lib.hid (by rw [HQ.out]; rfl)
    go_wp2
    go_ret
    exact ⟨ret_bool HE.out, hg⟩
  by_cases h0 : m4 + m3 + md = 0
  case neg =>
    as_aux_lemma =>
    have HE : Hid (true = q) := Lib.hid (by
      rw [HQ.out]
      have : (decide (m4 = 0) && decide (m3 = 0) && decide (md = 0)) = false := by
        rw [Bool.eq_false_iff]
        intro c
        simp only [Bool.and_eq_true, decide_eq_true_eq] at c
        omega
      rw [this]; rfl)
    have hx : decide ((0 : Int) < (m4 : Int) + (m3 : Int) + (md : Int)) = true := by simp; omega
    clear HQ
    go_wp2
    go_ret
    exact ⟨ret_bool HE.out, hg⟩
  obtain rfl : m4 = 0 := by omega
  obtain rfl : m3 = 0 := by omega
  obtain rfl : md = 0 := by omega
  have HK : Hid (q = if V.r.freq = 2 then b % 7 == n % 7 else if V.r.freq = 3 then Cal.dom b == Cal.dom n else if V.r.freq = 4 ∧ m5 ≠ 0 then b % 7 == n % 7 else if V.r.freq = 4 then Cal.dom b == Cal.dom n && (!decide (m6 = 0) || Cal.mon b == Cal.mon n) else true) := Lib.hid (by simpa using HQ.out)
  clear HQ
  go_upto_region 11 with (go_at_call 57; refine (cW _ (by omega) (by omega) _).mono ?_; rintro e w' ⟨rfl, rfl⟩)
  generalize V.r.freq = f at *
  by_cases f2 : f = 2
  · as_aux_lemma =>
    subst f2
    rw [if_pos rfl] at HK
    clear e14 e15 k1 k2 j1 j2
    go_wp2
    go_ret
    exact ⟨ret_bool HK.out.symm, hg⟩
  have g2 : (f == 2) = false := beq_eq_false_iff_ne.2 f2
  rw [if_neg f2] at HK
  by_cases f3 : f = 3
  · as_aux_lemma =>
    subst f3
    rw [if_pos rfl] at HK
    clear e15 k1 j1
    go_wp2
    go_ret
    exact ⟨ret_bool HK.out.symm, hg⟩
  have g3 : (f == 3) = false := beq_eq_false_iff_ne.2 f3
  rw [if_neg f3] at HK
  by_cases f4 : f = 4
  case neg =>
    as_aux_lemma =>
    have g4 : (f == 4) = false := beq_eq_false_iff_ne.2 f4
    rw [if_neg (fun c => f4 c.1), if_neg f4] at HK
    clear e15 k1 k2 j1 j2
    go_wp2
    go_ret
    exact ⟨ret_bool HK.out.symm, hg⟩
  subst f4
  by_cases h5 : m5 = 0
  case neg =>
    as_aux_lemma =>
    rw [if_pos ⟨rfl, h5⟩] at HK
    have hm5 : (0 : Int) < (m5 : Int) := by omega
    clear e15 k1 k2 j1 j2
    go_wp2
    go_ret
    exact ⟨ret_bool HK.out.symm, hg⟩
  subst h5
  rw [if_neg (fun c => c.2 rfl), if_pos rfl] at HK
  cases hdm : (Cal.dom b == Cal.dom n)
  · as_aux_lemma =>
    rw [hdm] at HK
    have HE : Hid (q = false) := Lib.hid (by simpa using HK.out)
    clear HK
    go_wp2
    go_ret
    exact ⟨ret_bool HE.out.symm, hg⟩
  rw [hdm] at HK
  by_cases h6 : m6 = 0
  · as_aux_lemma =>
    subst h6
    have HE : Hid (q = (Cal.mon b == Cal.mon n)) := Lib.hid (by simpa using HK.out)
    clear HK
    go_wp2
    go_ret
    exact ⟨ret_bool HE.out.symm, hg⟩
  · as_aux_lemma =>
    have HE : Hid (q = true) := Lib.hid (by simpa [h6] using HK.out)
    have hm6 : (0 : Int) < (m6 : Int) := by omega
    clear HK
    go_wp2
    go_ret
    exact ⟨ret_bool HE.out.symm, hg⟩
end Go.Proofs.YtmbmkldcedkbmaaGreat
namespace Go.Proofs.YtmbmkldcedkbmaaGreat
open Go.RowKit

set_option maxRecDepth 100000 in
set_option maxHeartbeats 4000000 in
theorem rspan_any (V : Rm.Rv) (b k : Int) (w : World) (hs : 0 ≤ V.r.st ∧ V.r.st ≤ 6) (hb : Cal.dayB b = true) (x1 : -4000000 ≤ k) (x2 : k ≤ 4000000) :
    Calls Tryz.prog 28 #[.agg V.val, .int .i64 b, .int .i64 k] w fun r w' => r = .returned (.tuple #[.int .i64 (Mc.span V.r b k).1, .int .i64 (Mc.span V.r b k).2]) ∧ Gr w w' := by
  obtain ⟨s0, s1⟩ := hs
  obtain ⟨b1, b2⟩ := Cal.dayB_iff.1 hb
  have yb := Cal.yr_bd b1 b2
  have mb : 1 ≤ Cal.mon b ∧ Cal.mon b ≤ 12 := Cal.mo_bd (Cal.yr b) (b - Cal.dby (Cal.yr b))
  have hg : Gr w (w.alloc (.cells V.val 27)) := (Gr.refl w).allocO _
  have hbx := RBx.now w V 27
  have e0 := hbx.c0
  have e7 := hbx.c7
  have cB := fun w' => rdate14_any b w' hb
  have HI : Hid (Mc.span V.r b k = if max (Mc.sp0 V.r b k).1 1 ≤ min (Mc.sp0 V.r b k).2 3652059 then (max (Mc.sp0 V.r b k).1 1, min (Mc.sp0 V.r b k).2 3652059) else (0, -1)) := rfl
  have HS : Hid (Mc.sp0 V.r b k = if V.r.freq = 1 then (b + k, b + k) else if V.r.freq = 2 then (Mc.beg b V.r.st + 7 * k, Mc.beg b V.r.st + 7 * k + 6)
    else if V.r.freq = 3 then (if 1 ≤ (12 * Cal.yr b + Cal.mon b - 1 + k) / 12 ∧ (12 * Cal.yr b + Cal.mon b - 1 + k) / 12 ≤ 9999 then
      (Cal.num ((12 * Cal.yr b + Cal.mon b - 1 + k) / 12) ((12 * Cal.yr b + Cal.mon b - 1 + k) % 12 + 1) 1, Cal.num ((12 * Cal.yr b + Cal.mon b - 1 + k) / 12) ((12 * Cal.yr b + Cal.mon b - 1 + k) % 12 + 1) 1 + Cal.dim ((12 * Cal.yr b + Cal.mon b - 1 + k) / 12) ((12 * Cal.yr b + Cal.mon b - 1 + k) % 12 + 1) - 1) else (0, -1))
    else (if 1 ≤ Cal.yr b + k ∧ Cal.yr b + k ≤ 9999 then (Cal.dby (Cal.yr b + k) + 1, Cal.dby (Cal.yr b + k + 1)) else (0, -1))) := rfl
  obtain ⟨q, hq⟩ : ∃ q, Mc.span V.r b k = q := ⟨_, rfl⟩
  rw [hq] at HI ⊢
  generalize Mc.sp0 V.r b k = sp at *
  have m4 := Mc.beg_bd b V.r.st
  clear hq hbx hb
  generalize Cal.dom b = db at *
  go_enter Tryz.func28, Tryz.ntmps28
  go_wp2_with fail
  refine (cB _).mono ?_
  rintro e w1 ⟨rfl, hg1⟩
  have hgA : Gr w1 (w1.alloc (.cells #[.int .i64 (Cal.yr b), .int .i64 (Cal.mon b), .int .i64 db] 85)) := (Gr.refl w1).allocO _
  have e0 := gr_cell (hg1.trans hgA) e0
  have e7 := gr_cell (hg1.trans hgA) e7
  obtain ⟨k0, k1, k2⟩ := box_now w1 (.int .i64 (Cal.yr b)) (.int .i64 (Cal.mon b)) (.int .i64 db) 85
  have hg := (hg.trans hg1).trans hgA
  clear hg1 hgA cB k2
  go_upto_region 3 with fail
  generalize w1.alloc (.cells #[.int .i64 (Cal.yr b), .int .i64 (Cal.mon b), .int .i64 db] 85) = W at *
  generalize Cal.yr b = y at *
  generalize Cal.mon b = m at *
  by_cases f1 : V.r.freq = 1
  · rw [f1] at e0
    rw [if_pos f1] at HS
    clear e7 k0 k1 f1
    go_upto_region 18 with fail
    by_cases hc : max (b + k) 1 ≤ min (b + k) 3652059
    · as_aux_lemma =>
      have HE : Hid (q = (max (b + k) 1, min (b + k) 3652059)) := Lib.hid (by rw [HI.out, HS.out]; exact if_pos hc)
      clear HI HS
      go_wp2
      go_ret2
      exact ⟨ret_two (congrArg Prod.fst HE.out.symm) (congrArg Prod.snd HE.out.symm), hg⟩
    · as_aux_lemma =>
      have HE : Hid (q = (0, -1)) := Lib.hid (by rw [HI.out, HS.out]; exact if_neg hc)
      have hd : min (b + k) 3652059 < max (b + k) 1 := by omega
      clear HI HS hc
      go_wp2
      go_ret2
      exact ⟨ret_two (congrArg Prod.fst HE.out.symm) (congrArg Prod.snd HE.out.symm), hg⟩
  have g1 : (V.r.freq == 1) = false := beq_eq_false_iff_ne.2 f1
  rw [if_neg f1] at HS
  by_cases f2 : V.r.freq = 2
  · rw [f2] at e0
    rw [if_pos f2] at HS
    clear k0 k1 f1 f2 g1
    have cG := fun w' => rbegin_any b V.r.st w' s0 s1 (by omega) (by omega)
    generalize V.r.st = s at *
    generalize Mc.beg b s = z at *
    go_upto_region 18 with (go_at_call 47; refine (cG _).mono ?_; rintro e w' ⟨rfl, rfl⟩)
    by_cases hc : max (z + 7 * k) 1 ≤ min (z + 7 * k + 6) 3652059
    · as_aux_lemma =>
      have HE : Hid (q = (max (z + 7 * k) 1, min (z + 7 * k + 6) 3652059)) := Lib.hid (by rw [HI.out, HS.out]; exact if_pos hc)
      clear HI HS
      go_wp2
      go_ret2
      exact ⟨ret_two (congrArg Prod.fst HE.out.symm) (congrArg Prod.snd HE.out.symm), hg⟩
    · as_aux_lemma =>
      have HE : Hid (q = (0, -1)) := Lib.hid (by rw [HI.out, HS.out]; exact if_neg hc)
      have hd : min (z + 7 * k + 6) 3652059 < max (z + 7 * k) 1 := by omega
      clear HI HS hc
      go_wp2
      go_ret2
      exact ⟨ret_two (congrArg Prod.fst HE.out.symm) (congrArg Prod.snd HE.out.symm), hg⟩
  have g2 : (V.r.freq == 2) = false := beq_eq_false_iff_ne.2 f2
  rw [if_neg f2] at HS
  by_cases f3 : V.r.freq = 3
  · rw [f3] at e0
    rw [if_pos f3] at HS
    clear f1 f2 f3 g1 g2 e7 m4
    have cF := fun w' => floor_any (12 * y + m - 1 + k) 12 w' (by omega) (by omega) (by omega)
    have cR := fun w' => mod_any (12 * y + m - 1 + k) 12 w' (by omega) (by omega) (by omega) (by omega)
    have ib : 0 ≤ (12 * y + m - 1 + k) % 12 ∧ (12 * y + m - 1 + k) % 12 < 12 := by omega
    have ic : -10000000 ≤ (12 * y + m - 1 + k) / 12 ∧ (12 * y + m - 1 + k) / 12 ≤ 10000000 := by omega
    by_cases hy : 1 ≤ (12 * y + m - 1 + k) / 12 ∧ (12 * y + m - 1 + k) / 12 ≤ 9999
    · rw [if_pos hy] at HS
      have cX := fun w' => fixed0_any ((12 * y + m - 1 + k) / 12) ((12 * y + m - 1 + k) % 12 + 1) 1 w' (by omega) (by omega) (by omega) (by omega) (by omega) (by omega)
      have cL := fun w' => reflength0 ((12 * y + m - 1 + k) / 12) ((12 * y + m - 1 + k) % 12 + 1) (by omega) (by omega) w'
      have db1 := Cal.dim_bd ((12 * y + m - 1 + k) / 12) ((12 * y + m - 1 + k) % 12 + 1)
      have nb := num_bdw (y := (12 * y + m - 1 + k) / 12) (m := (12 * y + m - 1 + k) % 12 + 1) (d := 1) (by omega) (by omega) (by omega) (by omega) (by omega) (by omega)
      generalize Cal.num ((12 * y + m - 1 + k) / 12) ((12 * y + m - 1 + k) % 12 + 1) 1 = z1 at *
      generalize Cal.dim ((12 * y + m - 1 + k) / 12) ((12 * y + m - 1 + k) % 12 + 1) = z2 at *
      generalize (12 * y + m - 1 + k) / 12 = iq at *
      generalize (12 * y + m - 1 + k) % 12 = ir at *
      go_upto_region 18 with (first | (go_at_call 48; refine (cF _).mono ?_; rintro e w' ⟨rfl, rfl⟩) | (go_at_call 49; refine (cR _).mono ?_; rintro e w' ⟨rfl, rfl⟩) | (go_at_call 50; refine (cX _).mono ?_; rintro e w' ⟨rfl, rfl⟩) | (go_at_call 51; refine (cL _).mono ?_; rintro e w' ⟨rfl, rfl⟩))
      by_cases hc : max (z1) 1 ≤ min (z1 + z2 - 1) 3652059
      · as_aux_lemma =>
        have HE : Hid (q = (max (z1) 1, min (z1 + z2 - 1) 3652059)) := Lib.hid (by rw [HI.out, HS.out]; exact if_pos hc)
        clear HI HS
        go_wp2
        go_ret2
        exact ⟨ret_two (congrArg Prod.fst HE.out.symm) (congrArg Prod.snd HE.out.symm), hg⟩
      · as_aux_lemma =>
        have HE : Hid (q = (0, -1)) := Lib.hid (by rw [HI.out, HS.out]; exact if_neg hc)
        have hd : min (z1 + z2 - 1) 3652059 < max (z1) 1 := by omega
        clear HI HS hc
        go_wp2
        go_ret2
        exact ⟨ret_two (congrArg Prod.fst HE.out.symm) (congrArg Prod.snd HE.out.symm), hg⟩
    · rw [if_neg hy] at HS
      have hy2 : (12 * y + m - 1 + k) / 12 < 1 ∨ 9999 < (12 * y + m - 1 + k) / 12 := by omega
      clear hy
      generalize (12 * y + m - 1 + k) / 12 = iq at *
      generalize (12 * y + m - 1 + k) % 12 = ir at *
      have HE : Hid (q = (0, -1)) := Lib.hid (by rw [HI.out, HS.out]; exact if_neg (by decide))
      clear HI HS
      rcases hy2 with hy2 | hy2
      · as_aux_lemma =>
        have h3 : decide (1 ≤ iq) = false := by simp; omega
        go_wp2_with (first | (go_at_call 48; refine (cF _).mono ?_; rintro e w' ⟨rfl, rfl⟩) | (go_at_call 49; refine (cR _).mono ?_; rintro e w' ⟨rfl, rfl⟩))
        go_ret2
        exact ⟨ret_two (congrArg Prod.fst HE.out.symm) (congrArg Prod.snd HE.out.symm), hg⟩
      · as_aux_lemma =>
        have h3 : decide (iq ≤ 9999) = false := by simp; omega
        go_wp2_with (first | (go_at_call 48; refine (cF _).mono ?_; rintro e w' ⟨rfl, rfl⟩) | (go_at_call 49; refine (cR _).mono ?_; rintro e w' ⟨rfl, rfl⟩))
        go_ret2
        exact ⟨ret_two (congrArg Prod.fst HE.out.symm) (congrArg Prod.snd HE.out.symm), hg⟩
  have g3 : (V.r.freq == 3) = false := beq_eq_false_iff_ne.2 f3
  rw [if_neg f3] at HS
  generalize V.r.freq = f at *
  clear f1 f2 f3 e7 k1 m4
  by_cases hy : 1 ≤ y + k ∧ y + k ≤ 9999
  · rw [if_pos hy] at HS
    have j1 := Mc.num_jan (y + k)
    have j2 := Mc.num_jan (y + k + 1)
    have db1 := Cal.dby_bdw (a := y + k) (by omega) (by omega)
    have db2 := Cal.dby_bdw (a := y + k + 1) (by omega) (by omega)
    have J1 := Lib.hid j1
    have J2 := Lib.hid j2
    clear j1 j2
    generalize Cal.dby (y + k + 1) = z2 at *
    generalize Cal.dby (y + k) = z1 at *
    go_upto_region 18 with (go_at_call 50; refine (fixed0_any _ _ _ _ (by omega) (by omega) (by omega) (by omega) (by omega) (by omega)).mono ?_; rintro e w' ⟨rfl, rfl⟩; first | rw [J1.out] | rw [J2.out])
    by_cases hc : max (z1 + 1) 1 ≤ min (z2) 3652059
    · as_aux_lemma =>
      have HE : Hid (q = (max (z1 + 1) 1, min (z2) 3652059)) := Lib.hid (by rw [HI.out, HS.out]; exact if_pos hc)
      clear HI HS
      go_wp2
      go_ret2
      exact ⟨ret_two (congrArg Prod.fst HE.out.symm) (congrArg Prod.snd HE.out.symm), hg⟩
    · as_aux_lemma =>
      have HE : Hid (q = (0, -1)) := Lib.hid (by rw [HI.out, HS.out]; exact if_neg hc)
      have hd : min (z2) 3652059 < max (z1 + 1) 1 := by omega
      clear HI HS hc
      go_wp2
      go_ret2
      exact ⟨ret_two (congrArg Prod.fst HE.out.symm) (congrArg Prod.snd HE.out.symm), hg⟩
  · rw [if_neg hy] at HS
    have hy2 : y + k < 1 ∨ 9999 < y + k := by omega
    clear hy
    have HE : Hid (q = (0, -1)) := Lib.hid (by rw [HI.out, HS.out]; exact if_neg (by decide))
    clear HI HS
    rcases hy2 with hy2 | hy2
    · as_aux_lemma =>
      have h3 : decide (1 ≤ y + k) = false := by simp; omega
      go_wp2
      go_ret2
      exact ⟨ret_two (congrArg Prod.fst HE.out.symm) (congrArg Prod.snd HE.out.symm), hg⟩
    · as_aux_lemma =>
      have h3 : decide (y + k ≤ 9999) = false := by simp; omega
      go_wp2
      go_ret2
      exact ⟨ret_two (congrArg Prod.fst HE.out.symm) (congrArg Prod.snd HE.out.symm), hg⟩
end Go.Proofs.YtmbmkldcedkbmaaGreat
