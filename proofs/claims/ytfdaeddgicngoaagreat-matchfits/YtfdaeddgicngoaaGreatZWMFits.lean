/- The law MatchFits returns true. -/
import Derived.Test.YtfdaeddgicngoaaGreatZGf
import Derived.Test.YtfdaeddgicngoaaGreatZMrFits
namespace Go.Proofs.YtfdaeddgicngoaaGreat
open Go.RowKit

set_option maxRecDepth 100000 in
set_option maxHeartbeats 4000000 in
theorem mfits_any (V : Rm.Rv) (b n : Int) (w : World) (hM : RuM w w.heap.size V) (hz : V.z.size ≤ 9223372036854775807) (hd : V.day.n ≤ 140737488355328) (hn : ∀ i, i < 8 → (V.sl i).n ≤ 140737488355328) :
    Calls Tryz.prog 3 #[.agg V.val, .int .i64 b, .int .i64 n] w fun e w' => e = .returned (.bool true) ∧ Gr w w' := by
  have HX := Lib.hid (RBx.now w V 27)
  have hg : Gr w (w.alloc (.cells V.val 27)) := (Gr.refl w).allocO _
  have cA := fun w' => awake14_any w'
  have cS := fun w' => few_any V w' hd hn
  have cF := fun w' (g : Gr w w') => fits_all V b n w' (hM.gr g) hd hn
  have cX := fun w' (g : Gr w w') => wrong_any V b n w' (hM.gr g) hz hd hn
  have hb := Mc.bad_cases V.r b n
  have cR := fun (h : Mc.bad V.r b n = 0) w' (g : Gr w w') => rfits14_any V b n w' (hM.gr g) hd hn (Mc.bad_0 h).1 (Mc.bad_0 h).2.1 (Mc.bad_0 h).2.2
  clear hM hz hd hn
  generalize decide (Rm.sumN V 8 ≤ 500) = q1 at *
  generalize Mc.fits V.r b n = z at *
  generalize Mc.bad V.r b n = x at *
  go_enter Tryz.func3, Tryz.ntmps3
  go_upto_region 1 with fail
  generalize w.alloc (.cells V.val 27) = W at *
  go_wp2_with fail
  refine (cA _).mono ?_
  rintro e w1 ⟨rfl, hg1⟩
  have hx := HX.out.gr hg1
  have hg := hg.trans hg1
  clear HX hg1
  go_wp2_with (first | (refine wpList_load_rule rfl _ rfl rfl hx ?_) | (refine wpList_load_ruleg (by rfl) _ rfl rfl hx ?_))
  refine (cS _).mono ?_
  rintro e w2 ⟨rfl, hg2⟩
  have hx := hx.gr hg2
  have hg := hg.trans hg2
  clear hg2 cS
  rcases q1
  · as_aux_lemma =>
    go_wp2_with fail
    refine (cA _).mono ?_
    rintro e w3 ⟨rfl, hg3⟩
    go_wp2
    go_ret
    exact ⟨rfl, hg.trans hg3⟩
  go_wp2_with (first | (refine wpList_load_rule rfl _ rfl rfl hx ?_) | (refine wpList_load_ruleg (by rfl) _ rfl rfl hx ?_))
  refine (cF _ hg).mono ?_
  rintro e w3 ⟨rfl, hg3⟩
  have hx := hx.gr hg3
  have hg := hg.trans hg3
  clear hg3 cF
  go_wp2_with (first | (refine wpList_load_rule rfl _ rfl rfl hx ?_) | (refine wpList_load_ruleg (by rfl) _ rfl rfl hx ?_))
  refine (cX _ hg).mono ?_
  rintro e w4 ⟨rfl, hg4⟩
  have hx := hx.gr hg4
  have hg := hg.trans hg4
  clear hg4 cX
  rcases hb with rfl | rfl | rfl
  · as_aux_lemma =>
    have c := cR rfl
    clear cR
    go_wp2_with (first | (refine wpList_load_rule rfl _ rfl rfl hx ?_) | (refine wpList_load_ruleg (by rfl) _ rfl rfl hx ?_))
    refine (c _ hg).mono ?_
    rintro e w5 ⟨rfl, hg5⟩
    go_wp2
    go_ret
    exact ⟨by simp, hg.trans hg5⟩
  · as_aux_lemma =>
    clear cR
    go_wp2
    go_ret
    exact ⟨rfl, hg⟩
  · as_aux_lemma =>
    clear cR
    go_wp2
    go_ret
    exact ⟨rfl, hg⟩
end Go.Proofs.YtfdaeddgicngoaaGreat
