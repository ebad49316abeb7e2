/- The law ExpandTimes returns true. -/
import Derived.Test.YtmbmkldcedkbmaaGreatZXG
import Derived.BigQuiet
namespace Go.Proofs.YtmbmkldcedkbmaaGreat
open Go.RowKit

set_option maxRecDepth 100000 in
set_option maxHeartbeats 16000000 in
theorem xtimes_any (V : Rm.Rv) (b n : Int) (w : World) (hM : RuM w w.heap.size V) (hz : V.z.size ≤ 9223372036854775807) (hd : V.day.n ≤ 140737488355328) (hn : ∀ i, i < 8 → (V.sl i).n ≤ 140737488355328) :
    Calls Tryz.prog 3 #[.agg V.val, .int .i64 b, .int .i64 n] w fun e w' => e = .returned (.bool true) ∧ Gr w w' := by
  have HX := RBx.now w V 27
  have hg : Gr w (w.alloc (.cells V.val 27)) := (Gr.refl w).allocO _
  have cA := fun w' => awake15_any w'
  have cS := fun w' => few_any V w' hd hn
  have hn5 : Rm.sumN V 8 ≤ 500 → ∀ i, i < 8 → (V.sl i).n ≤ 500 := fun hq i hi => Rm.sumN_at V hi hq
  have cP := fun (hq : Rm.sumN V 8 ≤ 500) w' => perday_any V w' (hn5 hq)
  have cT := fun (hq : Rm.sumN V 8 ≤ 500) w' (g : Gr w w') => ptimes_any V b n w' (hM.gr g) (Nat.le_trans (Rm.sumN_day V hq) (by omega)) (fun i hi => Nat.le_trans (hn5 hq i hi) (by omega))
  have cF := fun w' (g : Gr w w') => rformed_any V w' (hM.gr g) hz hd hn
  have cR := fun w' => rright_any b w'
  have HMM := Lib.hid (And.intro hM (And.intro hd hn))
  have HTR : Hid (TmsR V b n = if chk V.r b = 0 then Ex.tms V.r (b / 86400) n (Ex.secs V.r (b % 86400)) else []) := Lib.hid rfl
  have HC : Hid (chk V.r b = if Rm.fm V.r = false then 10 else if Clk.okB b = false then 2 else 0) := Lib.hid rfl
  have HPD : Hid (PD V = PD V) := Lib.hid rfl
  generalize TmsR V b n = RS at *
  generalize chk V.r b = z at *
  clear hM hz hd hn
  go_enter Tryz.func3, Tryz.ntmps3
  go_upto_region 1 with fail
  have hx := HX
  have hc2 := hx.c2
  clear HX
  generalize w.alloc (.cells V.val 27) = W at *
  go_wp2_with (first | (refine wpList_load_rule rfl _ rfl rfl hx ?_) | (refine wpList_load_ruleg (by rfl) _ rfl rfl hx ?_))
  refine (cA _).mono ?_
  rintro e w1 ⟨rfl, hgn⟩
  have hx := hx.gr hgn
  have hg := hg.trans hgn
  clear hgn 
  have hc2 := hx.c2
  go_wp2_with (first | (refine wpList_load_rule rfl _ rfl rfl hx ?_) | (refine wpList_load_ruleg (by rfl) _ rfl rfl hx ?_))
  refine (cS _).mono ?_
  rintro e w2 ⟨rfl, hgn⟩
  have hx := hx.gr hgn
  have hg := hg.trans hgn
  clear hgn 
  have hc2 := hx.c2
  by_cases hq : Rm.sumN V 8 ≤ 500
  case neg =>
    rw [decide_eq_false hq]
    as_aux_lemma =>
      go_wp2_with fail
      refine (cA _).mono ?_
      rintro e w3 ⟨rfl, hgn⟩
      go_wp2
      go_ret
      exact ⟨rfl, hg.trans hgn⟩
  rw [decide_eq_true hq]
  have cT := cT hq
  have cP := cP hq
  clear cS cA
  go_wp2_with (first | (refine wpList_load_rule rfl _ rfl rfl hx ?_) | (refine wpList_load_ruleg (by rfl) _ rfl rfl hx ?_))
  refine (cT _ hg).mono ?_
  rintro e w3 ⟨A, m, c, rfl, hgn, hN⟩
  have hx := hx.gr hgn
  have hml := hN.out.1
  have hg := hg.trans hgn
  clear hgn cT
  have hc2 := hx.c2
  go_wp2_with (first | (refine wpList_load_rule rfl _ rfl rfl hx ?_) | (refine wpList_load_ruleg (by rfl) _ rfl rfl hx ?_))
  refine (cF _ hg).mono ?_
  rintro e w4 ⟨rfl, hgn⟩
  have hx := hx.gr hgn
  have hN4 := Lib.hid (hN.out.gr hgn)
  clear hN
  have hg := hg.trans hgn
  clear hgn cF
  have hc2 := hx.c2
  by_cases hf : Rm.fm V.r = false
  · as_aux_lemma =>
    have hz : z = 10 := by rw [HC.out, if_pos hf]
    rw [hf]
    have HR : Hid (RS = []) := Lib.hid (by rw [HTR.out, hz]; rfl)
    subst hz
    clear HTR HC
    have hm0 : m = 0 := by rw [← hml, HR.out]; rfl
    subst hm0
    clear hml
    go_wp2
    go_ret
    exact ⟨by first | rfl | simp, hg⟩
  have hf1 : Rm.fm V.r = true := by simpa using hf
  rw [hf1]
  go_wp2_with fail
  refine (cR _).mono ?_
  rintro e w5 ⟨rfl, rfl⟩
  by_cases hb : Clk.okB b = false
  · as_aux_lemma =>
    have hz : z = 2 := by rw [HC.out, if_neg hf, if_pos hb]
    rw [hb]
    have HR : Hid (RS = []) := Lib.hid (by rw [HTR.out, hz]; rfl)
    subst hz
    clear HTR HC
    have hm0 : m = 0 := by rw [← hml, HR.out]; rfl
    subst hm0
    clear hml
    go_wp2
    go_ret
    exact ⟨by first | rfl | simp, hg⟩
  have hb1 : Clk.okB b = true := by simpa using hb
  rw [hb1]
  have hz : z = 0 := by rw [HC.out, if_neg hf, if_neg hb]
  subst hz
  have HTS := Lib.hid (HTR.out.trans (if_pos rfl))
  clear HC HTR
  go_wp2_with (first | (refine wpList_load_rule rfl _ rfl rfl hx ?_) | (refine wpList_load_ruleg (by rfl) _ rfl rfl hx ?_))
  refine (cP _).mono ?_
  rintro e w6 ⟨rfl, hgn⟩
  have hx := hx.gr hgn
  have hN6 := Lib.hid (hN4.out.gr hgn)
  clear hN4
  have hg := hg.trans hgn
  clear hgn cP
  have hc2 := hx.c2
  by_cases h200 : 200 < PD V
  · as_aux_lemma =>
    generalize PD V = pd at *
    go_wp2
    go_ret
    exact ⟨rfl, hg⟩
  have h2b : PD V ≤ 200 := by omega
  by_cases hfar : 4000000 < n
  · as_aux_lemma =>
    have HR : Hid (RS = []) := Lib.hid (by rw [HTS.out]; exact Ex.tms_far (okB_dayB hb1) (fm_head hf1).2.2 (by omega))
    generalize PD V = pd at *
    have hm0 : m = 0 := by rw [← hml, HR.out]; rfl
    subst hm0
    clear hml
    go_wp2
    go_ret
    exact ⟨by first | rfl | simp, hg⟩
  by_cases hneg : n < 0
  · as_aux_lemma =>
    have HR : Hid (RS = []) := Lib.hid (by rw [HTS.out]; unfold Ex.tms; rw [if_pos (.inl hneg)])
    generalize PD V = pd at *
    have hm0 : m = 0 := by rw [← hml, HR.out]; rfl
    subst hm0
    clear hml
    go_wp2
    go_ret
    exact ⟨by first | rfl | simp, hg⟩
  have HSL := Lib.hid (secs_len V b hf1 (HMM.out.1.l 0 (by decide)).1 (HMM.out.1.l 1 (by decide)).1 (HMM.out.1.l 2 (by decide)).1)
  have HSN : Hid ((Ex.secs V.r (b % 86400)).length ≤ 200) := Lib.hid (by have := HSL.out; omega)
  have hb86 := (Clk.okB_iff.1 hb1).1
  have c1 := fun w' (g : Gr w w') => rsecs_any V b w' (HMM.out.1.gr g) HMM.out.2.2 (by omega)
  have c2 := fun S ns cs w' (g : Gr w w') (hS : Nums w' w'.heap.size S ns (Ex.secs V.r (b % 86400))) => rtimes_any V b n S ns cs _ w' (HMM.out.1.gr g) HMM.out.2.1 HMM.out.2.2 hf1 hb1 (by omega) (by omega) hS (by rw [← hS.1]; exact HSN.out) Ex.secs_bd
  rw [← HTS.out] at c2
  have HRL : Hid (RS.length ≤ 1000000000) := Lib.hid (by rw [HTS.out]; exact Ex.tms_len _ _ _ _ HSN.out)
  have hc1 := Lib.hid c1
  have hc2 := Lib.hid c2
  clear c1 c2 HTS HSL HSN HMM
  generalize Ex.secs V.r (b % 86400) = ss at *
  generalize PD V = pd at *
  go_upto_region 12 with fail
  refine wp_region_S 14 (fun w' : World => Gr w6 w') (by kernel_rfl) rfl ?_
  have hS0 : (fun w' : World => Gr w6 w') w6.drew := (Gr.refl _).drew
  generalize w6.drew = W1 at *
  refine WkS.take (i := 0) (v := ?_) (at_lit rfl) (by kernel_rfl) (by kernel_rfl) (by kernel_rfl) rfl (fun _ _ _ h => by first | exact h | (cases h.1)) ?_ hS0 ?_
  rotate_left 1
  · intro w' hw
    clear hw
    go_simp
    first | done | rfl
  try simp only [Act.put, List.setIfInBounds_toArray, List.set_cons_zero, List.set_cons_succ]
  refine WkS.take (i := 1) (v := .bool true) (at_lit rfl) (by kernel_rfl) (by kernel_rfl) (by kernel_rfl) rfl (fun _ _ _ h => by first | exact h | (cases h.1)) ?_ hS0 ?_
  · intro w' hw
    clear hw
    go_simp
    first | done | rfl
  try simp only [Act.put, List.setIfInBounds_toArray, List.set_cons_zero, List.set_cons_succ]
  refine WkS.take (i := 2) (v := ?_) (at_lit rfl) (by kernel_rfl) (by kernel_rfl) (by kernel_rfl) rfl (fun _ _ _ h => by first | exact h | (cases h.1)) ?_ hS0 ?_
  rotate_left 1
  · intro w' hw
    clear hw
    go_simp
    first | done | rfl
  try simp only [Act.put, List.setIfInBounds_toArray, List.set_cons_zero, List.set_cons_succ]
  refine WkS.takeg (i := 3) (v := ?_) (at_lit rfl) (by kernel_rfl) (by kernel_rfl) (by kernel_rfl) (by first | rfl | kernel_rfl) (fun _ _ _ h => by first | exact h | (cases h.1)) ?_ hS0 ?_
  rotate_left 1
  · intro w' hw
    clear hw
    go_simp
    first | done | rfl
  try simp only [Act.put, List.setIfInBounds_toArray, List.set_cons_zero, List.set_cons_succ]
  refine WkS.takeg (i := 4) (v := .agg V.val) (at_lit rfl) (by kernel_rfl) (by kernel_rfl) (by kernel_rfl) (by first | rfl | kernel_rfl) (fun _ _ _ h => by first | exact h | (cases h.1)) ?_ hS0 ?_
  · intro w' hw
    exact exec_rule _ rfl rfl (hx.gr hw)
  try simp only [Act.put, List.setIfInBounds_toArray, List.set_cons_zero, List.set_cons_succ]
  refine WkS.takeg (i := 5) (v := ?_) (at_lit rfl) (by kernel_rfl) (by kernel_rfl) (by kernel_rfl) (by first | rfl | kernel_rfl) (fun _ _ _ h => by first | exact h | (cases h.1)) ?_ hS0 ?_
  rotate_left 1
  · intro w' hw
    clear hw
    go_simp
    first | done | rfl
  try simp only [Act.put, List.setIfInBounds_toArray, List.set_cons_zero, List.set_cons_succ]
  refine WkS.takeg (i := 6) (v := ?_) (at_lit rfl) (by kernel_rfl) (by kernel_rfl) (by kernel_rfl) (by first | rfl | kernel_rfl) (fun _ _ _ h => by first | exact h | (cases h.1)) ?_ hS0 ?_
  rotate_left 1
  · intro w' hw
    clear hw
    go_simp
    first | done | rfl
  try simp only [Act.put, List.setIfInBounds_toArray, List.set_cons_zero, List.set_cons_succ]
  refine WkS.takeg (i := 7) (v := .agg V.val) (at_lit rfl) (by kernel_rfl) (by kernel_rfl) (by kernel_rfl) (by first | rfl | kernel_rfl) (fun _ _ _ h => by first | exact h | (cases h.1)) ?_ hS0 ?_
  · intro w' hw
    exact exec_rule _ rfl rfl (hx.gr hw)
  try simp only [Act.put, List.setIfInBounds_toArray, List.set_cons_zero, List.set_cons_succ]
  refine WkS.takeg (i := 8) (v := ?_) (at_lit rfl) (by kernel_rfl) (by kernel_rfl) (by kernel_rfl) (by first | rfl | kernel_rfl) (fun _ _ _ h => by first | exact h | (cases h.1)) ?_ hS0 ?_
  rotate_left 1
  · intro w' hw
    clear hw
    go_simp
    first | done | rfl
  try simp only [Act.put, List.setIfInBounds_toArray, List.set_cons_zero, List.set_cons_succ]
  refine WkS.these (is := [9]) (by kernel_rfl) (by simp) (fun i hi => ?_)
  obtain rfl := List.mem_singleton.1 hi
  clear hi
  refine WkS.opg (at_lit rfl) (by first | rfl | kernel_rfl) (fun K hK => ?_)
  go_simp
  refine (hc1.out _ (hg.trans hS0)).mono ?_
  rintro e w7 ⟨B, nb, cb, rfl, hg7, hNs⟩
  refine hK _ _ ⟨hS0.trans hg7, ?_⟩
  clear hK K
  have hS0 := hS0.trans hg7
  clear hg7
  try simp only [Act.put, List.setIfInBounds_toArray, List.set_cons_zero, List.set_cons_succ]
  refine WkS.these (is := [10]) (by kernel_rfl) (by simp) (fun i hi => ?_)
  obtain rfl := List.mem_singleton.1 hi
  clear hi
  refine WkS.opg (at_lit rfl) (by first | rfl | kernel_rfl) (fun K hK => ?_)
  go_simp
  refine (hc2.out B nb cb _ (hg.trans hS0) hNs.out).mono ?_
  rintro e w8 ⟨C, mc, cc, rfl, hg8, hNc⟩
  refine hK _ _ ⟨hS0.trans hg8, ?_⟩
  clear hK K
  have hS0 := hS0.trans hg8
  clear hg8
  try simp only [Act.put, List.setIfInBounds_toArray, List.set_cons_zero, List.set_cons_succ]
  refine WkS.these (is := [11]) (by kernel_rfl) (by simp) (fun i hi => ?_)
  obtain rfl := List.mem_singleton.1 hi
  clear hi
  refine WkS.opg (at_lit rfl) (by first | rfl | kernel_rfl) (fun K hK => ?_)
  go_simp
  refine (same_yes A C m c mc cc RS _ (hN6.out.gr hS0) hNc.out (by have := HRL.out; omega)).mono ?_
  rintro e w9 ⟨rfl, hg9⟩
  refine hK _ _ ⟨hS0.trans hg9, ?_⟩
  clear hK K
  have hS0 := hS0.trans hg9
  clear hg9
  try simp only [Act.put, List.setIfInBounds_toArray, List.set_cons_zero, List.set_cons_succ]
  refine WkS.take (i := 12) (v := .bool true) (at_lit rfl) (by kernel_rfl) (by kernel_rfl) (by kernel_rfl) rfl (fun _ _ _ h => by first | exact h | (cases h.1)) ?_ hS0 ?_
  · intro w' hw
    clear hw
    go_simp
    first | done | rfl
  try simp only [Act.put, List.setIfInBounds_toArray, List.set_cons_zero, List.set_cons_succ]
  refine WkS.take (i := 13) (v := .bool true) (at_lit rfl) (by kernel_rfl) (by kernel_rfl) (by kernel_rfl) rfl (fun _ _ _ h => by first | exact h | (cases h.1)) ?_ hS0 ?_
  · intro w' hw
    clear hw
    go_simp
    first | done | rfl
  try simp only [Act.put, List.setIfInBounds_toArray, List.set_cons_zero, List.set_cons_succ]
  refine WkS.done (by kernel_rfl) ?_
  go_wp2
  go_ret
  exact ⟨rfl, hg.trans hS0⟩
end Go.Proofs.YtmbmkldcedkbmaaGreat
