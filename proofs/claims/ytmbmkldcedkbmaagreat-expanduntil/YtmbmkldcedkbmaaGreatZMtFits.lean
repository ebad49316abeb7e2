/- What match.Fits returns (layer 14). -/
import Derived.Test.YtmbmkldcedkbmaaGreatZGi
import Derived.Test.YtmbmkldcedkbmaaGreatZGh
namespace Go.Proofs.YtmbmkldcedkbmaaGreat
open Go.RowKit

theorem per_bd {r : Rm.Ru} {b n : Int} (hf : 1 ≤ r.freq ∧ r.freq ≤ 4) (hs : 0 ≤ r.st ∧ r.st ≤ 6) (hb : Cal.dayB b = true) (h : Cal.dayB n = true) : -3652069 ≤ Mc.per r b n ∧ Mc.per r b n ≤ 3652069 := by
  rw [Mc.per_idx hf]
  have := Mc.idx_bd hs hb
  have := Mc.idx_bd hs h
  omega
theorem ret_be {a c : Bool} (h : a = c) (e : Int) : Ending.returned (.tuple #[.bool a, .int .i64 e]) = .returned (.tuple #[.bool c, .int .i64 e]) := by rw [h]
set_option maxRecDepth 100000 in
set_option maxHeartbeats 2000000 in
theorem fits_yes (V : Rm.Rv) (b n : Int) (w : World) (hM : RuM w w.heap.size V) (hd : V.day.n ≤ 140737488355328) (hn : ∀ i, i < 8 → (V.sl i).n ≤ 140737488355328) (hf : Rm.fm V.r = true) (hb : Cal.dayB b = true) (h : Cal.dayB n = true) :
    Calls Tryz.prog 76 #[.agg V.val, .int .i64 b, .int .i64 n] w fun e w' => e = .returned (.tuple #[.bool (Mc.fits V.r b n), .int .i64 0]) ∧ Gr w w' := by
  obtain ⟨f1, ⟨i1, i2⟩, f3⟩ := fm_head hf
  have hbx := RBx.now w V 27
  have hg : Gr w (w.alloc (.cells V.val 27)) := (Gr.refl w).allocO _
  have pb := per_bd f1 f3 hb h
  have cP := fun w' (g : Gr w w') => period_yes V b n w' (hM.gr g) hf hb h
  have cI := fun w' (g : Gr w w') => inlists_any V n w' (hM.gr g) hd hn f3 h
  have cK := fun w' (g : Gr w w') => like_any V b n w' (hM.gr g) hd hn hb h
  have HI : Hid (Mc.fits V.r b n = (decide (0 ≤ Mc.per V.r b n) && decide (Mc.per V.r b n % V.r.ivl = 0) && (Mc.lst2 V.r n && Mc.like2 V.r b n))) := Lib.hid (by rw [← Mc.fits_eq (fm_week hf) h]; rfl)
  obtain ⟨q, hq⟩ : ∃ q, Mc.fits V.r b n = q := ⟨_, rfl⟩
  rw [hq] at HI ⊢
  clear hq hM hd hn hf hb h f1 f3
  generalize Mc.per V.r b n = p at *
  generalize Mc.lst2 V.r n = z1 at *
  generalize Mc.like2 V.r b n = z2 at *
  have hiv0 : V.r.ivl ≠ 0 := by omega
  have HX := Lib.hid hbx
  clear hbx
  go_enter Tryz.func76, Tryz.ntmps76
  go_upto_region 1 with fail
  generalize w.alloc (.cells V.val 27) = W at *
  have hbx := HX.out
  clear HX
  go_wp2_with (first | (refine wpList_load_rule rfl _ rfl rfl (by assumption) ?_) | (refine wpList_load_ruleg (by rfl) _ rfl rfl (by assumption) ?_))
  refine (cP _ hg).mono ?_
  rintro e w1 ⟨rfl, hg1⟩
  have hbx := hbx.gr hg1
  have hg := hg.trans hg1
  have e1 := hbx.c1
  clear cP hg1
  go_upto_region 4 with fail
  have HX := Lib.hid hbx
  clear hbx
  go_cut [10] from 20 (fun v wx => v = .bool (decide (0 ≤ p) && decide (p % V.r.ivl = 0)) ∧ w1 = wx)
  case first =>
    by_cases hp : 0 ≤ p
    · as_aux_lemma =>
      have HE : Hid ((p % V.r.ivl == 0) = (decide (0 ≤ p) && decide (p % V.r.ivl = 0))) := Lib.hid (by rw [decide_eq_true hp, Bool.true_and, Bool.eq_iff_iff, beq_iff_eq, decide_eq_true_eq])
      have tb : -1000 ≤ p.tmod V.r.ivl ∧ p.tmod V.r.ivl ≤ 1000 := by
        have := Int.tmod_lt_of_pos p (b := V.r.ivl) (by omega)
        have := Int.tmod_nonneg V.r.ivl hp
        omega
      generalize (decide (0 ≤ p) && decide (p % V.r.ivl = 0)) = t at *
      generalize V.r.ivl = iv at *
      clear HI HX
      go_wp2
      go_meet
      case rel => exact ⟨by rw [HE.out], rfl⟩
    · as_aux_lemma =>
      have HE : Hid (false = (decide (0 ≤ p) && decide (p % V.r.ivl = 0))) := Lib.hid (by rw [decide_eq_false hp]; rfl)
      have hp2 : decide (0 ≤ p) = false := decide_eq_false hp
      clear HI HX
      generalize (decide (0 ≤ p) && decide (p % V.r.ivl = 0)) = t at *
      go_wp2
      go_meet
      case rel => exact ⟨by rw [HE.out], rfl⟩
  case rest =>
  obtain ⟨rfl, rfl⟩ := hcut
  have hx := HX.out
  clear HX e1 pb
  generalize (decide (0 ≤ p) && decide (p % V.r.ivl = 0)) = t at *
  rcases t
  · as_aux_lemma =>
    have HE : Hid (false = q) := Lib.hid (by rw [HI.out]; rfl)
    clear hx cI cK
    go_wp2
    go_ret2
    exact ⟨ret_be HE.out 0, hg⟩
  rcases z1
  · as_aux_lemma =>
    have HE : Hid (false = q) := Lib.hid (by rw [HI.out]; rfl)
    clear cK
    go_wp2_with (first | (refine wpList_load_ruleg (by rfl) _ rfl rfl hx ?_) | (go_at_call 109; refine (cI _ hg).mono ?_; rintro e w2 ⟨rfl, hg2⟩))
    go_ret2
    exact ⟨ret_be HE.out 0, hg.trans hg2⟩
  · as_aux_lemma =>
    have HE : Hid (z2 = q) := Lib.hid (by rw [HI.out]; rfl)
    go_wp2_with (first | (refine wpList_load_ruleg (by rfl) _ rfl rfl hx ?_))
    refine (cI _ hg).mono ?_
    rintro e w2 ⟨rfl, hg2⟩
    have hx := hx.gr hg2
    have hg := hg.trans hg2
    go_wp2_with (first | (refine wpList_load_ruleg (by rfl) _ rfl rfl hx ?_) | (go_at_call 110; refine (cK _ hg).mono ?_; rintro e w3 ⟨rfl, hg3⟩))
    go_ret2
    exact ⟨ret_be HE.out 0, hg.trans hg3⟩
set_option maxRecDepth 100000 in
set_option maxHeartbeats 2000000 in
theorem fits_no (V : Rm.Rv) (b n : Int) (w : World) (e : Int) (he : e = 2 ∨ e = 10)
    (cP : ∀ w', Gr w w' → Calls Tryz.prog 108 #[.agg V.val, .int .i64 b, .int .i64 n] w' fun x w'' => x = .returned (.tuple #[.int .i64 0, .int .i64 e]) ∧ Gr w' w'') :
    Calls Tryz.prog 76 #[.agg V.val, .int .i64 b, .int .i64 n] w fun x w' => x = .returned (.tuple #[.bool false, .int .i64 e]) ∧ Gr w w' := by
  have hg : Gr w (w.alloc (.cells V.val 27)) := (Gr.refl w).allocO _
  have hbx := RBx.now w V 27

  have HX := Lib.hid hbx
  clear hbx
  rcases he with rfl | rfl
  all_goals
    go_enter Tryz.func76, Tryz.ntmps76
    go_upto_region 1 with fail
    generalize w.alloc (.cells V.val 27) = W at *
    have hbx := HX.out
    clear HX
    go_wp2_with (first | (refine wpList_load_rule rfl _ rfl rfl (by assumption) ?_) | (refine wpList_load_ruleg (by rfl) _ rfl rfl (by assumption) ?_))
    refine (cP _ hg).mono ?_
    rintro e w1 ⟨rfl, hg1⟩
    go_wp2
    go_ret2
    exact ⟨rfl, hg.trans hg1⟩
end Go.Proofs.YtmbmkldcedkbmaaGreat
