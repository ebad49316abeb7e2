/- The texts MtPer, MtSpan, one behind the other. -/
import Derived.Test.YtmbmkldcedkbmaaGreatZGd
import Derived.Test.YtmbmkldcedkbmaaGreatZK
namespace Go.Proofs.YtmbmkldcedkbmaaGreat
open Go.RowKit

namespace Mc
/- what is wrong with what is asked -/
def bad (r : Rm.Ru) (b n : Int) : Int := if Rm.fm r = false then 10 else if (Cal.dayB b && Cal.dayB n) = true then 0 else 2
end Mc
set_option maxRecDepth 100000 in
set_option maxHeartbeats 2000000 in
theorem period_yes (V : Rm.Rv) (b n : Int) (w : World) (hM : RuM w w.heap.size V) (hf : Rm.fm V.r = true) (hb : Cal.dayB b = true) (h : Cal.dayB n = true) :
    Calls Tryz.prog 108 #[.agg V.val, .int .i64 b, .int .i64 n] w fun e w' => e = .returned (.tuple #[.int .i64 (Mc.per V.r b n), .int .i64 0]) ∧ Gr w w' := by
  obtain ⟨f1, _, f3⟩ := fm_head hf
  have hbx := RBx.now w V 27
  have hg : Gr w (w.alloc (.cells V.val 27)) := (Gr.refl w).allocO _
  have b1 := Mc.idx_bd f3 hb
  have b2 := Mc.idx_bd f3 h
  have cF := fun w' hM => formed_any V w' hM
  have cI := fun n h w' => indexof_any V n w' f3 h
  rw [hf] at cF
  rw [Mc.per_idx f1]
  have HB := Lib.hid hb
  have H := Lib.hid h
  have HX := Lib.hid hbx
  clear hf hb h f1 f3 hbx
  have cF := fun w' (h : Gr w w') => cF w' (hM.gr h)
  clear hM
  generalize Mc.idx V.r = f at *
  go_enter Tryz.func108, Tryz.ntmps108
  go_upto_region 1 with fail
  generalize w.alloc (.cells V.val 27) = W at *
  have hbx := HX.out
  clear HX
  go_wp2_with (first | (refine wpList_load_rule rfl _ rfl rfl (by assumption) ?_) | (refine wpList_load_ruleg (by rfl) _ rfl rfl (by assumption) ?_))
  refine (cF _ hg).mono ?_
  rintro e w1 ⟨rfl, hg1⟩
  have hx := hbx.gr hg1
  have hg := hg.trans hg1
  clear hbx hg1 cF
  go_upto_region 5 with (go_at_call 37; refine (of_any _ _).mono ?_; rintro e w2 ⟨rfl, rfl⟩; first | rw [HB.out] | rw [H.out])
  have hx := after_rule hx
  refine wp_region_after (by kernel_rfl) (by kernel_rfl) ?_
  repeat (first | (go_big_quiet_want; (refine quiet_rule _ rfl rfl hx ?_); (try simp only [Act.put, List.setIfInBounds_toArray, List.set_cons_zero, List.set_cons_succ]); go_big_quiet_on) | go_big_quiet_step (first | (go_at_call 39; exact qafter (cI _ (by first | exact HB.out | exact H.out) _))))
  refine wpQuiet_nil ?_
  rintro _ ⟨⟨w6, hg6⟩, rfl⟩
  go_wp2
  go_ret2
  exact ⟨rfl, hg.trans hg6⟩
set_option maxRecDepth 100000 in
set_option maxHeartbeats 2000000 in
theorem period_bad (V : Rm.Rv) (b n : Int) (w : World) (hM : RuM w w.heap.size V) (hf : Rm.fm V.r = false) :
    Calls Tryz.prog 108 #[.agg V.val, .int .i64 b, .int .i64 n] w fun e w' => e = .returned (.tuple #[.int .i64 0, .int .i64 10]) ∧ Gr w w' := by
  have HX := Lib.hid (RBx.now w V 27)
  have hg : Gr w (w.alloc (.cells V.val 27)) := (Gr.refl w).allocO _
  have cF := fun w' hM => formed_any V w' hM
  rw [hf] at cF
  have cF := fun w' (h : Gr w w') => cF w' (hM.gr h)
  clear hM hf
  go_enter Tryz.func108, Tryz.ntmps108
  go_upto_region 1 with fail
  generalize w.alloc (.cells V.val 27) = W at *
  have hbx := HX.out
  clear HX
  go_wp2_with (first | (refine wpList_load_rule rfl _ rfl rfl (by assumption) ?_) | (refine wpList_load_ruleg (by rfl) _ rfl rfl (by assumption) ?_))
  refine (cF _ hg).mono ?_
  rintro e w1 ⟨rfl, hg1⟩
  go_wp2
  go_ret2
  exact ⟨rfl, hg.trans hg1⟩
set_option maxRecDepth 100000 in
set_option maxHeartbeats 2000000 in
theorem period_far (V : Rm.Rv) (b n : Int) (w : World) (hM : RuM w w.heap.size V) (hf : Rm.fm V.r = true) (h : (Cal.dayB b && Cal.dayB n) = false) :
    Calls Tryz.prog 108 #[.agg V.val, .int .i64 b, .int .i64 n] w fun e w' => e = .returned (.tuple #[.int .i64 0, .int .i64 2]) ∧ Gr w w' := by
  have HX := Lib.hid (RBx.now w V 27)
  have hg : Gr w (w.alloc (.cells V.val 27)) := (Gr.refl w).allocO _
  have cF := fun w' hM => formed_any V w' hM
  rw [hf] at cF
  have cF := fun w' (h : Gr w w') => cF w' (hM.gr h)
  have c1 := fun w' => of_any b w'
  have c2 := fun w' => of_any n w'
  clear hM hf
  generalize Cal.dayB b = q1 at *
  generalize Cal.dayB n = q2 at *
  go_enter Tryz.func108, Tryz.ntmps108
  go_upto_region 1 with fail
  generalize w.alloc (.cells V.val 27) = W at *
  have hbx := HX.out
  clear HX
  go_wp2_with (first | (refine wpList_load_rule rfl _ rfl rfl (by assumption) ?_) | (refine wpList_load_ruleg (by rfl) _ rfl rfl (by assumption) ?_))
  refine (cF _ hg).mono ?_
  rintro e w1 ⟨rfl, hg1⟩
  rcases q1
  · go_wp2_with (go_at_call 37; refine (c1 _).mono ?_; rintro e w2 ⟨rfl, rfl⟩)
    go_ret2
    exact ⟨rfl, hg.trans hg1⟩
  · obtain rfl : q2 = false := by simpa using h
    go_wp2_with (go_at_call 37; first | (refine (c1 _).mono ?_; rintro e w2 ⟨rfl, rfl⟩) | (refine (c2 _).mono ?_; rintro e w2 ⟨rfl, rfl⟩))
    go_ret2
    exact ⟨rfl, hg.trans hg1⟩
end Go.Proofs.YtmbmkldcedkbmaaGreat
namespace Go.Proofs.YtmbmkldcedkbmaaGreat
open Go.RowKit

namespace Mc
/- what Span answers to a formed rule and a day -/
def spE (r : Rm.Ru) (b k : Int) : Int × Int × Int := if (span r b k).2 < (span r b k).1 then (0, 0, 2) else ((span r b k).1, (span r b k).2, 0)
theorem spE_in {r : Rm.Ru} {b k x y : Int} (h : max x 1 ≤ min y 3652059) (hs : span r b k = (max x 1, min y 3652059)) : spE r b k = (max x 1, min y 3652059, 0) := by
  unfold spE
  rw [hs, if_neg (by dsimp only; omega)]
theorem spE_out {r : Rm.Ru} {b k : Int} (hs : span r b k = (0, -1)) : spE r b k = (0, 0, 2) := by
  unfold spE
  rw [hs, if_pos (by decide)]
end Mc
theorem ret_three {a b c a2 b2 c2 : Int} (h : a = a2) (h2 : b = b2) (h3 : c = c2) : Ending.returned (.tuple #[.int .i64 a, .int .i64 b, .int .i64 c]) = .returned (.tuple #[.int .i64 a2, .int .i64 b2, .int .i64 c2]) := by rw [h, h2, h3]
set_option maxRecDepth 100000 in
set_option maxHeartbeats 2000000 in
theorem span_near (V : Rm.Rv) (b k : Int) (w : World) (hM : RuM w w.heap.size V) (hf : Rm.fm V.r = true) (hb : Cal.dayB b = true) (k1 : -3652059 ≤ k) (k2 : k ≤ 3652059) :
    Calls Tryz.prog 21 #[.agg V.val, .int .i64 b, .int .i64 k] w fun e w' => e = .returned (.tuple #[.int .i64 (Mc.spE V.r b k).1, .int .i64 (Mc.spE V.r b k).2.1, .int .i64 (Mc.spE V.r b k).2.2]) ∧ Gr w w' := by
  obtain ⟨f1, _, f3⟩ := fm_head hf
  have hbx := RBx.now w V 27
  have hg : Gr w (w.alloc (.cells V.val 27)) := (Gr.refl w).allocO _
  have b1 := Mc.idx_bd f3 hb
  have cF := fun w' hM => formed_any V w' hM
  have cI := fun w' => indexof_any V b w' f3 hb
  have cB := fun w' => bounds_any V (Mc.idx V.r b + k) w' f3 (by omega) (by omega)
  have hx := Mc.bnd_max f1 b k
  rw [hf] at cF
  have HB := Lib.hid hb
  have HX := Lib.hid hbx
  have cF := fun w' (h : Gr w w') => cF w' (hM.gr h)
  clear hf hb f1 f3 hbx hM
  generalize Mc.bnd V.r (Mc.idx V.r b + k) = p at *
  generalize Mc.idx V.r b = f at *
  obtain ⟨x, y⟩ := p
  dsimp only at hx cB
  obtain ⟨q, hq⟩ : ∃ q, Mc.spE V.r b k = q := ⟨_, rfl⟩
  have HE : Hid ((max x 1 ≤ min y 3652059 ∧ q = (max x 1, min y 3652059, 0)) ∨ (min y 3652059 < max x 1 ∧ q = (0, 0, 2))) := Lib.hid (by
    rcases hx with ⟨h1, h2⟩ | ⟨h1, h2⟩
    · exact .inl ⟨h1, by rw [← hq, Mc.spE_in h1 h2]⟩
    · exact .inr ⟨by omega, by rw [← hq, Mc.spE_out h2]⟩)
  rw [hq]
  clear hq hx
  have b2 : decide (k < -3652059) = false := by simp; omega
  have b3 : decide (3652059 < k) = false := by simp; omega
  go_enter Tryz.func21, Tryz.ntmps21
  go_upto_region 1 with fail
  generalize w.alloc (.cells V.val 27) = W at *
  have hbx := HX.out
  clear HX
  go_wp2_with (first | (refine wpList_load_rule rfl _ rfl rfl (by assumption) ?_) | (refine wpList_load_ruleg (by rfl) _ rfl rfl (by assumption) ?_))
  refine (cF _ hg).mono ?_
  rintro e w1 ⟨rfl, hg1⟩
  have hx := hbx.gr hg1
  have hg := hg.trans hg1
  clear hbx hg1 cF
  go_upto_region 5 with (go_at_call 37; refine (of_any _ _).mono ?_; rintro e w2 ⟨rfl, rfl⟩; rw [HB.out])
  have hx := after_rule hx
  refine wp_region_after (by kernel_rfl) (by kernel_rfl) ?_
  repeat (first | (go_big_quiet_want; (refine quiet_rule _ rfl rfl hx ?_); (try simp only [Act.put, List.setIfInBounds_toArray, List.set_cons_zero, List.set_cons_succ]); go_big_quiet_on) | go_big_quiet_step (first | (go_at_call 39; exact qafter (cI _)) | (go_at_call 38; exact qafter (cB _))))
  refine wpQuiet_nil ?_
  rintro _ ⟨⟨w6, hg6⟩, rfl⟩
  have hg := hg.trans hg6
  rcases HE.out with ⟨h1, rfl⟩ | ⟨h1, rfl⟩
  · clear HE
    go_wp2
    go_ret3
    exact ⟨ret_three rfl rfl rfl, hg⟩
  · clear HE
    go_wp2
    go_ret3
    exact ⟨ret_three rfl rfl rfl, hg⟩
set_option maxRecDepth 100000 in
set_option maxHeartbeats 2000000 in
theorem span_bad (V : Rm.Rv) (b k : Int) (w : World) (hM : RuM w w.heap.size V) (hf : Rm.fm V.r = false) :
    Calls Tryz.prog 21 #[.agg V.val, .int .i64 b, .int .i64 k] w fun e w' => e = .returned (.tuple #[.int .i64 0, .int .i64 0, .int .i64 10]) ∧ Gr w w' := by
  have HX := Lib.hid (RBx.now w V 27)
  have hg : Gr w (w.alloc (.cells V.val 27)) := (Gr.refl w).allocO _
  have cF := fun w' hM => formed_any V w' hM
  rw [hf] at cF
  have cF := fun w' (h : Gr w w') => cF w' (hM.gr h)
  clear hM hf
  go_enter Tryz.func21, Tryz.ntmps21
  go_upto_region 1 with fail
  generalize w.alloc (.cells V.val 27) = W at *
  have hbx := HX.out
  clear HX
  go_wp2_with (first | (refine wpList_load_rule rfl _ rfl rfl (by assumption) ?_) | (refine wpList_load_ruleg (by rfl) _ rfl rfl (by assumption) ?_))
  refine (cF _ hg).mono ?_
  rintro e w1 ⟨rfl, hg1⟩
  go_wp2
  go_ret3
  exact ⟨rfl, hg.trans hg1⟩
set_option maxRecDepth 100000 in
set_option maxHeartbeats 2000000 in
theorem span_far (V : Rm.Rv) (b k : Int) (w : World) (hM : RuM w w.heap.size V) (hf : Rm.fm V.r = true) (h : Cal.dayB b = false ∨ k < -3652059 ∨ 3652059 < k) :
    Calls Tryz.prog 21 #[.agg V.val, .int .i64 b, .int .i64 k] w fun e w' => e = .returned (.tuple #[.int .i64 0, .int .i64 0, .int .i64 2]) ∧ Gr w w' := by
  have HX := Lib.hid (RBx.now w V 27)
  have hg : Gr w (w.alloc (.cells V.val 27)) := (Gr.refl w).allocO _
  have cF := fun w' hM => formed_any V w' hM
  rw [hf] at cF
  have cF := fun w' (h : Gr w w') => cF w' (hM.gr h)
  clear hM hf
  have c1 := fun w' => of_any b w'
  generalize Cal.dayB b = q1 at *
  go_enter Tryz.func21, Tryz.ntmps21
  go_upto_region 1 with fail
  generalize w.alloc (.cells V.val 27) = W at *
  have hbx := HX.out
  clear HX
  go_wp2_with (first | (refine wpList_load_rule rfl _ rfl rfl (by assumption) ?_) | (refine wpList_load_ruleg (by rfl) _ rfl rfl (by assumption) ?_))
  refine (cF _ hg).mono ?_
  rintro e w1 ⟨rfl, hg1⟩
  rcases q1
  · go_wp2_with (go_at_call 37; refine (c1 _).mono ?_; rintro e w2 ⟨rfl, rfl⟩)
    go_ret3
    exact ⟨rfl, hg.trans hg1⟩
  · have h2 : k < -3652059 ∨ 3652059 < k := by simpa using h
    clear h
    by_cases h3 : k < -3652059
    · go_wp2_with (go_at_call 37; refine (c1 _).mono ?_; rintro e w2 ⟨rfl, rfl⟩)
      go_ret3
      exact ⟨rfl, hg.trans hg1⟩
    · have h4 : 3652059 < k := by omega
      have b2 : decide (k < -3652059) = false := by simp; omega
      go_wp2_with (go_at_call 37; refine (c1 _).mono ?_; rintro e w2 ⟨rfl, rfl⟩)
      go_ret3
      exact ⟨rfl, hg.trans hg1⟩
end Go.Proofs.YtmbmkldcedkbmaaGreat
