/- The law MatchPeriods returns true (written by mkmper.py). -/
import Derived.Test.YtfdaeddgicngoaaGreatZGf
import Derived.Test.YtfdaeddgicngoaaGreatZMrSpan
namespace Go.Proofs.YtfdaeddgicngoaaGreat
open Go.RowKit

namespace Mc
theorem spE_cases (r : Rm.Ru) (b k : Int) : ((span r b k).2 < (span r b k).1 ∧ spE r b k = (0, 0, 2)) ∨ (¬ (span r b k).2 < (span r b k).1 ∧ spE r b k = ((span r b k).1, (span r b k).2, 0)) := by
  unfold spE
  by_cases h : (span r b k).2 < (span r b k).1
  · exact .inl ⟨h, if_pos h⟩
  · exact .inr ⟨h, if_neg h⟩
end Mc
abbrev PerC (V : Rm.Rv) (b n : Int) (w : World) (x p : Int) : Prop := ∀ w', Gr w w' → Calls Tryz.prog 11 #[.agg V.val, .int .i64 b, .int .i64 n] w' fun e w'' => e = .returned (.tuple #[.int .i64 p, .int .i64 x]) ∧ Gr w' w''
abbrev SpC (V : Rm.Rv) (b k : Int) (w : World) (x y e : Int) : Prop := ∀ w', Gr w w' → Calls Tryz.prog 12 #[.agg V.val, .int .i64 b, .int .i64 k] w' fun r w'' => r = .returned (.tuple #[.int .i64 x, .int .i64 y, .int .i64 e]) ∧ Gr w' w''
abbrev WrC (V : Rm.Rv) (b n : Int) (w : World) (x : Int) : Prop := ∀ w', Gr w w' → Calls Tryz.prog 9 #[.agg V.val, .int .i64 b, .int .i64 n] w' fun e w'' => e = .returned (.int .i64 x) ∧ Gr w' w''
abbrev FwC (V : Rm.Rv) (w : World) (q : Bool) : Prop := ∀ w', Gr w w' → Calls Tryz.prog 7 #[.agg V.val] w' fun e w'' => e = .returned (.bool q) ∧ Gr w' w''
abbrev RsC (V : Rm.Rv) (b k : Int) (w : World) (x y : Int) : Prop := ∀ w', Gr w w' → Calls Tryz.prog 14 #[.agg V.val, .int .i64 b, .int .i64 k] w' fun e w'' => e = .returned (.tuple #[.int .i64 x, .int .i64 y]) ∧ Gr w' w''
abbrev RpC (V : Rm.Rv) (b n : Int) (w : World) (p : Int) : Prop := ∀ w', Gr w w' → Calls Tryz.prog 13 #[.agg V.val, .int .i64 b, .int .i64 n] w' fun e w'' => e = .returned (.int .i64 p) ∧ Gr w' w''
abbrev LawC (V : Rm.Rv) (b n k : Int) (w : World) : Prop := Calls Tryz.prog 5 #[.agg V.val, .int .i64 b, .int .i64 n, .int .i64 k] w fun e w' => e = .returned (.bool true) ∧ Gr w w'

set_option maxRecDepth 100000 in
set_option maxHeartbeats 4000000 in
theorem mper_big (V : Rm.Rv) (b n k : Int) (w : World) (cF : FwC V w false) : LawC V b n k w := by
  have HX := Lib.hid (RBx.now w V 27)
  have hg : Gr w (w.alloc (.cells V.val 27)) := (Gr.refl w).allocO _
  have cA := fun w' => awake14_any w'
  go_enter Tryz.func5, Tryz.ntmps5
  go_upto_region 1 with fail
  generalize w.alloc (.cells V.val 27) = W at *
  go_wp2_with fail
  refine (cA _).mono ?_
  rintro e w1 ⟨rfl, hg1⟩
  have hx := HX.out.gr hg1
  have hg := hg.trans hg1
  clear HX hg1
  go_wp2_with (first | (refine wpList_load_rule rfl _ rfl rfl hx ?_) | (refine wpList_load_ruleg (by rfl) _ rfl rfl hx ?_))
  refine (cF _ hg).mono ?_
  rintro e w_f ⟨rfl, g_f⟩
  have hx := hx.gr g_f
  have hg := hg.trans g_f
  clear g_f
  go_wp2_with fail
  refine (cA _).mono ?_
  rintro e w3 ⟨rfl, hg3⟩
  go_wp2
  go_ret
  exact ⟨rfl, hg.trans hg3⟩
set_option maxRecDepth 100000 in
set_option maxHeartbeats 4000000 in
theorem mper_bad (V : Rm.Rv) (b n k x : Int) (w : World) (hv : x = 2 ∨ x = 10) (cF : FwC V w true) (cP : PerC V b n w x 0) (cS : SpC V b k w 0 0 x) (c1 : WrC V b n w x) (c2 : WrC V b b w x) : LawC V b n k w := by
  have HX := Lib.hid (RBx.now w V 27)
  have hg : Gr w (w.alloc (.cells V.val 27)) := (Gr.refl w).allocO _
  have cA := fun w' => awake14_any w'
  rcases hv with rfl | rfl
  all_goals
    go_enter Tryz.func5, Tryz.ntmps5
    go_upto_region 1 with fail
    generalize w.alloc (.cells V.val 27) = W at *
    go_wp2_with fail
    refine (cA _).mono ?_
    rintro e w1 ⟨rfl, hg1⟩
    have hx := HX.out.gr hg1
    have hg := hg.trans hg1
    clear HX hg1
    go_wp2_with (first | (refine wpList_load_rule rfl _ rfl rfl hx ?_) | (refine wpList_load_ruleg (by rfl) _ rfl rfl hx ?_))
    refine (cF _ hg).mono ?_
    rintro e w_f ⟨rfl, g_f⟩
    have hx := hx.gr g_f
    have hg := hg.trans g_f
    clear g_f
    go_wp2_with (first | (refine wpList_load_rule rfl _ rfl rfl hx ?_) | (refine wpList_load_ruleg (by rfl) _ rfl rfl hx ?_))
    refine (cP _ hg).mono ?_
    rintro e w_p ⟨rfl, g_p⟩
    have hx := hx.gr g_p
    have hg := hg.trans g_p
    clear g_p
    go_wp2_with (first | (refine wpList_load_rule rfl _ rfl rfl hx ?_) | (refine wpList_load_ruleg (by rfl) _ rfl rfl hx ?_))
    refine (cS _ hg).mono ?_
    rintro e w_s ⟨rfl, g_s⟩
    have hx := hx.gr g_s
    have hg := hg.trans g_s
    clear g_s
    go_wp2_with (first | (refine wpList_load_rule rfl _ rfl rfl hx ?_) | (refine wpList_load_ruleg (by rfl) _ rfl rfl hx ?_))
    refine (c1 _ hg).mono ?_
    rintro e w_a ⟨rfl, g_a⟩
    have hx := hx.gr g_a
    have hg := hg.trans g_a
    clear g_a
    go_wp2_with (first | (refine wpList_load_rule rfl _ rfl rfl hx ?_) | (refine wpList_load_ruleg (by rfl) _ rfl rfl hx ?_))
    refine (c2 _ hg).mono ?_
    rintro e w_b ⟨rfl, g_b⟩
    have hx := hx.gr g_b
    have hg := hg.trans g_b
    clear g_b
    go_wp2
    go_ret
    exact ⟨rfl, hg⟩
set_option maxRecDepth 100000 in
set_option maxHeartbeats 4000000 in
theorem mper_half (V : Rm.Rv) (b n k A B G : Int) (w : World) (cF : FwC V w true) (cP : PerC V b n w 2 0) (c1 : WrC V b n w 2) (cS : SpC V b k w A B G) (c2 : WrC V b b w 0)
    (hk : ((4000000 < k ∨ k < -4000000) ∧ G = 2) ∨ (¬ (4000000 < k ∨ k < -4000000) ∧ ∃ c d, RsC V b k w c d ∧ ((d < c ∧ A = 0 ∧ B = 0 ∧ G = 2) ∨ (¬ d < c ∧ A = c ∧ B = d ∧ G = 0)))) : LawC V b n k w := by
  have HX := Lib.hid (RBx.now w V 27)
  have hg : Gr w (w.alloc (.cells V.val 27)) := (Gr.refl w).allocO _
  have cA := fun w' => awake14_any w'
  go_enter Tryz.func5, Tryz.ntmps5
  go_upto_region 1 with fail
  generalize w.alloc (.cells V.val 27) = W at *
  go_wp2_with fail
  refine (cA _).mono ?_
  rintro e w1 ⟨rfl, hg1⟩
  have hx := HX.out.gr hg1
  have hg := hg.trans hg1
  clear HX hg1
  go_wp2_with (first | (refine wpList_load_rule rfl _ rfl rfl hx ?_) | (refine wpList_load_ruleg (by rfl) _ rfl rfl hx ?_))
  refine (cF _ hg).mono ?_
  rintro e w_f ⟨rfl, g_f⟩
  have hx := hx.gr g_f
  have hg := hg.trans g_f
  clear g_f
  go_wp2_with (first | (refine wpList_load_rule rfl _ rfl rfl hx ?_) | (refine wpList_load_ruleg (by rfl) _ rfl rfl hx ?_))
  refine (cP _ hg).mono ?_
  rintro e w_p ⟨rfl, g_p⟩
  have hx := hx.gr g_p
  have hg := hg.trans g_p
  clear g_p
  go_wp2_with (first | (refine wpList_load_rule rfl _ rfl rfl hx ?_) | (refine wpList_load_ruleg (by rfl) _ rfl rfl hx ?_))
  refine (cS _ hg).mono ?_
  rintro e w_s ⟨rfl, g_s⟩
  have hx := hx.gr g_s
  have hg := hg.trans g_s
  clear g_s
  go_wp2_with (first | (refine wpList_load_rule rfl _ rfl rfl hx ?_) | (refine wpList_load_ruleg (by rfl) _ rfl rfl hx ?_))
  refine (c1 _ hg).mono ?_
  rintro e w_a ⟨rfl, g_a⟩
  have hx := hx.gr g_a
  have hg := hg.trans g_a
  clear g_a
  go_wp2_with (first | (refine wpList_load_rule rfl _ rfl rfl hx ?_) | (refine wpList_load_ruleg (by rfl) _ rfl rfl hx ?_))
  refine (c2 _ hg).mono ?_
  rintro e w_b ⟨rfl, g_b⟩
  have hx := hx.gr g_b
  have hg := hg.trans g_b
  clear g_b
  rcases hk with ⟨hk, rfl⟩ | ⟨hk, c, d, cT, hcd⟩
  · as_aux_lemma =>
    by_cases hk2 : 4000000 < k
    · go_wp2
      go_ret
      exact ⟨rfl, hg⟩
    · have hk3 : k < -4000000 := by omega
      have hk4 : decide (4000000 < k) = false := by simp; omega
      go_wp2
      go_ret
      exact ⟨rfl, hg⟩
  have hk1 : decide (4000000 < k) = false := by simp; omega
  have hk2 : decide (k < -4000000) = false := by simp; omega
  clear hk
  go_wp2_with (first | (refine wpList_load_rule rfl _ rfl rfl hx ?_) | (refine wpList_load_ruleg (by rfl) _ rfl rfl hx ?_))
  refine (cT _ hg).mono ?_
  rintro e w_t ⟨rfl, g_t⟩
  have hx := hx.gr g_t
  have hg := hg.trans g_t
  clear g_t
  rcases hcd with ⟨hcd, rfl, rfl, rfl⟩ | ⟨hcd, rfl, rfl, rfl⟩
  · as_aux_lemma =>
    go_wp2
    go_ret
    exact ⟨rfl, hg⟩
  have hcd2 : decide (B < A) = false := by simp; omega
  as_aux_lemma =>
    go_wp2
    go_ret
    exact ⟨rfl, hg⟩
set_option maxRecDepth 100000 in
set_option maxHeartbeats 4000000 in
theorem mper_full (V : Rm.Rv) (b n k A B G : Int) (w : World) (P : Int) (A2 B2 : Int) (cF : FwC V w true) (cP : PerC V b n w 0 P) (cR : RpC V b n w P) (c1 : WrC V b n w 0) (cS2 : SpC V b P w A2 B2 0) (h1 : A2 ≤ n) (h2 : n ≤ B2) (cS : SpC V b k w A B G) (c2 : WrC V b b w 0)
    (hk : ((4000000 < k ∨ k < -4000000) ∧ G = 2) ∨ (¬ (4000000 < k ∨ k < -4000000) ∧ ∃ c d, RsC V b k w c d ∧ ((d < c ∧ A = 0 ∧ B = 0 ∧ G = 2) ∨ (¬ d < c ∧ A = c ∧ B = d ∧ G = 0)))) : LawC V b n k w := by
  have HX := Lib.hid (RBx.now w V 27)
  have hg : Gr w (w.alloc (.cells V.val 27)) := (Gr.refl w).allocO _
  have cA := fun w' => awake14_any w'
  go_enter Tryz.func5, Tryz.ntmps5
  go_upto_region 1 with fail
  generalize w.alloc (.cells V.val 27) = W at *
  go_wp2_with fail
  refine (cA _).mono ?_
  rintro e w1 ⟨rfl, hg1⟩
  have hx := HX.out.gr hg1
  have hg := hg.trans hg1
  clear HX hg1
  go_wp2_with (first | (refine wpList_load_rule rfl _ rfl rfl hx ?_) | (refine wpList_load_ruleg (by rfl) _ rfl rfl hx ?_))
  refine (cF _ hg).mono ?_
  rintro e w_f ⟨rfl, g_f⟩
  have hx := hx.gr g_f
  have hg := hg.trans g_f
  clear g_f
  go_wp2_with (first | (refine wpList_load_rule rfl _ rfl rfl hx ?_) | (refine wpList_load_ruleg (by rfl) _ rfl rfl hx ?_))
  refine (cP _ hg).mono ?_
  rintro e w_p ⟨rfl, g_p⟩
  have hx := hx.gr g_p
  have hg := hg.trans g_p
  clear g_p
  go_wp2_with (first | (refine wpList_load_rule rfl _ rfl rfl hx ?_) | (refine wpList_load_ruleg (by rfl) _ rfl rfl hx ?_))
  refine (cS _ hg).mono ?_
  rintro e w_s ⟨rfl, g_s⟩
  have hx := hx.gr g_s
  have hg := hg.trans g_s
  clear g_s
  go_wp2_with (first | (refine wpList_load_rule rfl _ rfl rfl hx ?_) | (refine wpList_load_ruleg (by rfl) _ rfl rfl hx ?_))
  refine (c1 _ hg).mono ?_
  rintro e w_a ⟨rfl, g_a⟩
  have hx := hx.gr g_a
  have hg := hg.trans g_a
  clear g_a
  go_wp2_with (first | (refine wpList_load_rule rfl _ rfl rfl hx ?_) | (refine wpList_load_ruleg (by rfl) _ rfl rfl hx ?_))
  refine (cR _ hg).mono ?_
  rintro e w_r ⟨rfl, g_r⟩
  have hx := hx.gr g_r
  have hg := hg.trans g_r
  clear g_r
  go_wp2_with (first | (refine wpList_load_rule rfl _ rfl rfl hx ?_) | (refine wpList_load_ruleg (by rfl) _ rfl rfl hx ?_))
  refine (c2 _ hg).mono ?_
  rintro e w_b ⟨rfl, g_b⟩
  have hx := hx.gr g_b
  have hg := hg.trans g_b
  clear g_b
  rcases hk with ⟨hk, rfl⟩ | ⟨hk, c, d, cT, hcd⟩
  · as_aux_lemma =>
    by_cases hk2 : 4000000 < k
    · go_wp2
      go_ret
      exact ⟨rfl, hg⟩
    · have hk3 : k < -4000000 := by omega
      have hk4 : decide (4000000 < k) = false := by simp; omega
      go_wp2
      go_ret
      exact ⟨rfl, hg⟩
  have hk1 : decide (4000000 < k) = false := by simp; omega
  have hk2 : decide (k < -4000000) = false := by simp; omega
  clear hk
  go_wp2_with (first | (refine wpList_load_rule rfl _ rfl rfl hx ?_) | (refine wpList_load_ruleg (by rfl) _ rfl rfl hx ?_))
  refine (cT _ hg).mono ?_
  rintro e w_t ⟨rfl, g_t⟩
  have hx := hx.gr g_t
  have hg := hg.trans g_t
  clear g_t
  rcases hcd with ⟨hcd, rfl, rfl, rfl⟩ | ⟨hcd, rfl, rfl, rfl⟩
  · as_aux_lemma =>
    go_wp2
    go_ret
    exact ⟨rfl, hg⟩
  have hcd2 : decide (B < A) = false := by simp; omega
  as_aux_lemma =>
    go_wp2_with (first | (refine wpList_load_rule rfl _ rfl rfl hx ?_) | (refine wpList_load_ruleg (by rfl) _ rfl rfl hx ?_))
    refine (cS2 _ hg).mono ?_
    rintro e w_u ⟨rfl, g_u⟩
    have hx := hx.gr g_u
    have hg := hg.trans g_u
    clear g_u
    go_wp2
    go_ret
    exact ⟨rfl, hg⟩
theorem mper_any (V : Rm.Rv) (b n k : Int) (w : World) (hM : RuM w w.heap.size V) (hz : V.z.size ≤ 9223372036854775807) (hd : V.day.n ≤ 140737488355328) (hn : ∀ i, i < 8 → (V.sl i).n ≤ 140737488355328) :
    Calls Tryz.prog 5 #[.agg V.val, .int .i64 b, .int .i64 n, .int .i64 k] w fun e w' => e = .returned (.bool true) ∧ Gr w w' := by
  have cF := fun w' (_ : Gr w w') => few_any V w' hd hn
  have c1 := fun w' (g : Gr w w') => wrong_any V b n w' (hM.gr g) hz hd hn
  have c2 := fun w' (g : Gr w w') => wrong_any V b b w' (hM.gr g) hz hd hn
  have cP := fun w' (g : Gr w w') => period_all V b n w' (hM.gr g)
  cases hq : decide (Rm.sumN V 8 ≤ 500)
  · rw [hq] at cF
    exact mper_big V b n k w cF
  rw [hq] at cF
  cases hf : Rm.fm V.r
  · rw [Mc.bad_fm hf] at c1 c2
    rw [Mc.bad_fm hf, if_neg (by decide)] at cP
    exact mper_bad V b n k 10 w (.inr rfl) cF cP (fun w' g => span_bad V b k w' (hM.gr g) hf) c1 c2
  obtain ⟨_, _, f3⟩ := fm_head hf
  cases hb : Cal.dayB b
  · rw [Mc.bad_day hf (by rw [hb]; rfl)] at c1 c2
    rw [Mc.bad_day hf (by rw [hb]; rfl), if_neg (by decide)] at cP
    exact mper_bad V b n k 2 w (.inl rfl) cF cP (fun w' g => span_far V b k w' (hM.gr g) hf (.inl hb)) c1 c2
  rw [Mc.bad_ok hf (by rw [hb]; rfl)] at c2
  have cSp : ∀ k, SpC V b k w (Mc.spE V.r b k).1 (Mc.spE V.r b k).2.1 (Mc.spE V.r b k).2.2 := fun k w' g => by
    by_cases hk : k < -3652059 ∨ 3652059 < k
    · rw [Mc.spE_out (Mc.span_far hb hk)]
      exact span_far V b k w' (hM.gr g) hf (.inr hk)
    · exact span_near V b k w' (hM.gr g) hf hb (by omega) (by omega)
  have hk : ((4000000 < k ∨ k < -4000000) ∧ (Mc.spE V.r b k).2.2 = 2) ∨ (¬ (4000000 < k ∨ k < -4000000) ∧ ∃ c d, RsC V b k w c d ∧ ((d < c ∧ (Mc.spE V.r b k).1 = 0 ∧ (Mc.spE V.r b k).2.1 = 0 ∧ (Mc.spE V.r b k).2.2 = 2) ∨ (¬ d < c ∧ (Mc.spE V.r b k).1 = c ∧ (Mc.spE V.r b k).2.1 = d ∧ (Mc.spE V.r b k).2.2 = 0))) := by
    by_cases hk : 4000000 < k ∨ k < -4000000
    · exact .inl ⟨hk, by rw [Mc.spE_out (Mc.span_far hb (by omega))]⟩
    · refine .inr ⟨hk, (Mc.span V.r b k).1, (Mc.span V.r b k).2, fun w' _ => rspan_any V b k w' f3 hb (by omega) (by omega), ?_⟩
      rcases Mc.spE_cases V.r b k with ⟨h1, h2⟩ | ⟨h1, h2⟩
      · exact .inl ⟨h1, by rw [h2], by rw [h2], by rw [h2]⟩
      · exact .inr ⟨h1, by rw [h2], by rw [h2], by rw [h2]⟩
  cases h : Cal.dayB n
  · rw [Mc.bad_day hf (by rw [hb, h]; rfl)] at c1
    rw [Mc.bad_day hf (by rw [hb, h]; rfl), if_neg (by decide)] at cP
    exact mper_half V b n k _ _ _ w cF cP c1 (cSp k) c2 hk
  · rw [Mc.bad_ok hf (by rw [hb, h]; rfl)] at c1
    rw [Mc.bad_ok hf (by rw [hb, h]; rfl), if_pos rfl] at cP
    obtain ⟨_, s1, s2⟩ := Mc.span_in f3 hb h
    have hE : Mc.spE V.r b (Mc.per V.r b n) = ((Mc.span V.r b (Mc.per V.r b n)).1, (Mc.span V.r b (Mc.per V.r b n)).2, 0) := by
      rcases Mc.spE_cases V.r b (Mc.per V.r b n) with ⟨h1, _⟩ | ⟨_, h2⟩
      · omega
      · exact h2
    have cS2 := cSp (Mc.per V.r b n)
    rw [hE] at cS2
    exact mper_full V b n k _ _ _ w _ _ _ cF cP (fun w' _ => rper_any V b n w' f3 hb h) c1 cS2 s1 s2 (cSp k) c2 hk
end Go.Proofs.YtfdaeddgicngoaaGreat
