/- The law MatchMany returns true. -/
import Derived.Test.YtfdaeddgicngoaaGreatZGf
import Derived.Test.YtfdaeddgicngoaaGreatZMrFits
namespace Go.Proofs.YtfdaeddgicngoaaGreat
open Go.RowKit

set_option maxRecDepth 100000 in
set_option maxHeartbeats 4000000 in
theorem mmany_any (V : Rm.Rv) (b m : Int) (w : World) (m1 : 0 ≤ m) (m2 : m ≤ 65535) (hM : RuM w w.heap.size V) (hz : V.z.size ≤ 9223372036854775807) (hd : V.day.n ≤ 140737488355328) (hn : ∀ i, i < 8 → (V.sl i).n ≤ 140737488355328) :
    Calls Tryz.prog 4 #[.agg V.val, .int .i64 b, .int .u16 m] w fun e w' => e = .returned (.bool true) ∧ Gr w w' := by
  have HX := Lib.hid (RBx.now w V 27)
  have hg : Gr w (w.alloc (.cells V.val 27)) := (Gr.refl w).allocO _
  have cA := fun w' => awake14_any w'
  have cS := fun w' => few_any V w' hd hn
  have cX := fun w' (g : Gr w w') => wrong_any V b b w' (hM.gr g) hz hd hn
  have hb := Mc.bad_cases V.r b b
  have HC : Hid (Mc.bad V.r b b = 0 → Rm.fm V.r = true ∧ Cal.dayB b = true) := Lib.hid (fun h => ⟨(Mc.bad_0 h).1, (Mc.bad_0 h).2.1⟩)
  have cF := fun (hf : Rm.fm V.r = true) (h1 : Cal.dayB b = true) n (h2 : Cal.dayB n = true) w' (g : Gr w w') => fits_yes V b n w' (hM.gr g) hd hn hf h1 h2
  have cR := fun (hf : Rm.fm V.r = true) (h1 : Cal.dayB b = true) n (h2 : Cal.dayB n = true) w' (g : Gr w w') => rfits14_any V b n w' (hM.gr g) hd hn hf h1 h2
  clear hM hz hd hn
  generalize decide (Rm.sumN V 8 ≤ 500) = q1 at *
  generalize Mc.bad V.r b b = x at *
  go_enter Tryz.func4, Tryz.ntmps4
  go_upto_region 1 with fail
  generalize w.alloc (.cells V.val 27) = W at *
  go_wp2_with fail
  refine (cA _).mono ?_
  rintro e w1 ⟨rfl, hg1⟩
  have hx := HX.out.gr hg1
  have hg := hg.trans hg1
  clear HX hg1
  go_wp2_with (first | (refine wpList_load_rule rfl _ rfl rfl hx ?_) | (refine wpList_load_ruleg (by rfl) _ rfl rfl hx ?_))
  refine (cS _).mono ?_
  rintro e w2 ⟨rfl, hg2⟩
  have hx := hx.gr hg2
  have hg := hg.trans hg2
  clear hg2 cS
  rcases q1
  · as_aux_lemma =>
    go_wp2_with fail
    refine (cA _).mono ?_
    rintro e w3 ⟨rfl, hg3⟩
    go_wp2
    go_ret
    exact ⟨rfl, hg.trans hg3⟩
  go_wp2_with (first | (refine wpList_load_rule rfl _ rfl rfl hx ?_) | (refine wpList_load_ruleg (by rfl) _ rfl rfl hx ?_))
  refine (cX _ hg).mono ?_
  rintro e w4 ⟨rfl, hg4⟩
  have hx := hx.gr hg4
  have hg := hg.trans hg4
  clear hg4 cX
  rcases hb with rfl | rfl | rfl
  rotate_left 1
  · as_aux_lemma =>
    go_wp2_with fail
    refine (cA _).mono ?_
    rintro e w5 ⟨rfl, hg5⟩
    go_wp2
    go_ret
    exact ⟨rfl, hg.trans hg5⟩
  · as_aux_lemma =>
    go_wp2_with fail
    refine (cA _).mono ?_
    rintro e w5 ⟨rfl, hg5⟩
    go_wp2
    go_ret
    exact ⟨rfl, hg.trans hg5⟩
  obtain ⟨hf, h1⟩ := HC.out rfl
  have cF := cF hf h1
  have cR := cR hf h1
  obtain ⟨b1, b2⟩ := Cal.dayB_iff.1 h1
  clear HC hf h1 cA
  have hm1 : 0 ≤ m % 2000 ∧ m % 2000 < 2000 := by omega
  have HX := Lib.hid hx
  clear hx
  go_wp2
  go_loopg [26] 150 (fun g v wx => ∃ k : Nat, v = .int .i64 (k : Int) ∧ k + g = 150 ∧ Gr w4 wx)
  case atStart => exact ⟨0, rfl, by omega, Gr.refl _⟩
  case round =>
    obtain ⟨k, rfl, hkg, hg5⟩ := hrel
    have HG := Lib.hid hkg
    clear hkg
    have hg := hg.trans hg5
    have hx := HX.out.gr hg5
    by_cases hk : k < 150
    · have hk2 : (k : Int) < 150 := by omega
      have hk3 : (0 : Int) ≤ (k : Int) := by omega
      by_cases hd : 3652059 < b + m % 2000 + (k : Int)
      · as_aux_lemma =>
        clear hx HX cF cR
        go_wp2
        go_ret
        exact ⟨rfl, hg⟩
      · have hd2 : decide (3652059 < b + m % 2000 + (k : Int)) = false := by simp; omega
        have hD : Cal.dayB (b + m % 2000 + (k : Int)) = true := Cal.dayB_iff.2 ⟨by omega, by omega⟩
        have cF := cF _ hD
        have cR := cR _ hD
        clear hD
        as_aux_lemma =>
        generalize Mc.fits V.r b (b + m % 2000 + (k : Int)) = z at *
        go_wp2_with (first | (refine wpList_load_rule rfl _ rfl rfl hx ?_) | (refine wpList_load_ruleg (by rfl) _ rfl rfl hx ?_))
        refine (cF _ hg).mono ?_
        rintro e w6 ⟨rfl, hg6⟩
        have hx := hx.gr hg6
        have hg := hg.trans hg6
        have hgN := hg5.trans hg6
        clear cF hg6
        go_wp2_with (first | (refine wpList_load_rule rfl _ rfl rfl hx ?_) | (refine wpList_load_ruleg (by rfl) _ rfl rfl hx ?_))
        refine (cR _ hg).mono ?_
        rintro e w7 ⟨rfl, hg7⟩
        have hgN := hgN.trans hg7
        clear cR hx
        go_wp2
        go_roundg (150 - (k + 1))
        case measure => have := HG.out; omega
        case rel => exact ⟨k + 1, by go_num, by omega, hgN⟩
    · as_aux_lemma =>
      have hk2 : ¬ (k : Int) < 150 := by omega
      clear hx HX cF cR
      go_wp2
      go_ret
      exact ⟨rfl, hg⟩
end Go.Proofs.YtfdaeddgicngoaaGreat
