/- The law ExpandMore returns true. -/
import Derived.Test.YtmbmkldcedkbmaaGreatZXl
import Derived.BigQuiet
namespace Go.Proofs.YtmbmkldcedkbmaaGreat
open Go.RowKit

theorem untils_any (V : Rm.Rv) (b last most : Int) (w : World) (hM : RuM w w.heap.size V) (hdn : V.day.n ≤ 140737488355328) (hn : ∀ i, i < 8 → (V.sl i).n ≤ 1000000) (hl : last ≤ 9223372036854775807) (h0 : ¬ most < 0) :
    Calls Tryz.prog 16 #[.agg V.val, .int .i64 b, .int .i64 last, .int .i64 most] w fun e w' => ∃ A n c, e = .returned (.tuple #[.slice A n c, .bool (if chk V.r b = 0 then Ex.UM V.r b last most.toNat else false), .int .i64 (chk V.r b)]) ∧ Gr w w' ∧ Hid (Nums w' w'.heap.size A n (if chk V.r b = 0 then Ex.UL V.r b last most.toNat else [])) ∧ n ≤ c := by
  have h := until_any V b last most w hM hdn hn hl
  have hU : untE V.r b most = chk V.r b := by unfold untE; rw [if_neg h0]; split <;> simp_all
  rw [hU] at h
  exact h
theorem Nums.pre {w : World} {B : Nat} {A : Option Addr} {n : Nat} {xs ys : List Int} (h : Nums w B A n xs) (hp : ys <+: xs) : Nums w B A ys.length ys := by
  refine ⟨rfl, fun h0 => ?_⟩
  obtain ⟨t, rfl⟩ := hp
  obtain ⟨ad, e, hb, hc⟩ := h.2 (by have := h.1; simp at this; omega)
  exact ⟨ad, e, hb, fun j u hu => hc j u (by rw [List.getElem?_append_left (by exact (List.getElem?_eq_some_iff.1 hu).1)]; exact hu)⟩
/- what is yielded up to a second is the beginning of what is yielded up to a later one, or with more -/
theorem moreL (r : Rm.Ru) {b a a2 : Int} {m m2 : Nat} (ha : a ≤ a2) (hm : m ≤ m2) : (if chk r b = 0 then Ex.UL r b a m else []) <+: (if chk r b = 0 then Ex.UL r b a2 m2 else []) := by
  by_cases hc : chk r b = 0
  · rw [if_pos hc, if_pos hc, Ex.UL_means, Ex.UL_means]
    have hfb : Rm.fm r = true := by
      unfold chk at hc
      split at hc
      · cases hc
      · rename_i h1; simpa using h1
    obtain ⟨f1, ⟨i1, i2⟩, f3⟩ := fm_head hfb
    exact Ex.means_more f3 i1 ha hm
  · rw [if_neg hc, if_neg hc]; exact List.prefix_rfl
theorem shortL (r : Rm.Ru) {b a : Int} {m : Nat} : (if chk r b = 0 then Ex.UL r b a m else []).length ≤ m := by
  split
  · unfold Ex.UL; rw [List.length_take]; omega
  · exact Nat.zero_le _
set_option maxRecDepth 100000 in
set_option maxHeartbeats 8000000 in
theorem xmore_any (V : Rm.Rv) (b d e1 m o : Int) (w : World) (hM : RuM w w.heap.size V) (hd : V.day.n ≤ 140737488355328) (hn : ∀ i, i < 8 → (V.sl i).n ≤ 140737488355328) (hbl : -9223372036854775808 ≤ b)
    (hd1 : 0 ≤ d ∧ d ≤ 255) (he1 : 0 ≤ e1 ∧ e1 ≤ 255) (hm1 : 0 ≤ m ∧ m ≤ 255) (ho1 : 0 ≤ o ∧ o ≤ 255) :
    Calls Tryz.prog 6 #[.agg V.val, .int .i64 b, .int .u8 d, .int .u8 e1, .int .u8 m, .int .u8 o] w fun e w' => e = .returned (.bool true) ∧ Gr w w' := by
  have HX := RBx.now w V 27
  have hg : Gr w (w.alloc (.cells V.val 27)) := (Gr.refl w).allocO _
  have cA := fun w' => awake15_any w'
  have cS := fun w' => few_any V w' hd hn
  have hn5 : Rm.sumN V 8 ≤ 500 → ∀ i, i < 8 → (V.sl i).n ≤ 500 := fun hq i hi => Rm.sumN_at V hi hq
  have cP := fun (hq : Rm.sumN V 8 ≤ 500) w' => perday_any V w' (hn5 hq)
  generalize PD V = pd at *
  have cU := fun (hb2 : b ≤ 259200000000) (hq : Rm.sumN V 8 ≤ 500) last most (hl : last ≤ 9223372036854775807) (h0 : ¬ most < 0) w' (g : Gr w w') => untils_any V b last most w' (hM.gr g) (Nat.le_trans (Rm.sumN_day V hq) (by omega)) (fun i hi => Nat.le_trans (hn5 hq i hi) (by omega)) hl h0
  have HP := Lib.hid (fun (m m2 : Nat) (h : m ≤ m2) => moreL V.r (b := b) (a := b + 86400 * d) (a2 := b + 86400 * d + 86400 * e1) (m := m) (m2 := m2) (by omega) h)
  have HS := Lib.hid (fun (m : Nat) => shortL V.r (b := b) (a := b + 86400 * d) (m := m))
  clear hM hd hn
  go_enter Tryz.func6, Tryz.ntmps6
  go_upto_region 1 with fail
  have hx := HX
  have hc2 := hx.c2
  clear HX
  generalize w.alloc (.cells V.val 27) = W at *
  go_wp2_with (first | (refine wpList_load_rule rfl _ rfl rfl hx ?_) | (refine wpList_load_ruleg (by rfl) _ rfl rfl hx ?_))
  refine (cA _).mono ?_
  rintro e w1 ⟨rfl, hgn⟩
  have hx := hx.gr hgn
  have hg := hg.trans hgn
  clear hgn 
  have hc2 := hx.c2
  go_wp2_with (first | (refine wpList_load_rule rfl _ rfl rfl hx ?_) | (refine wpList_load_ruleg (by rfl) _ rfl rfl hx ?_))
  refine (cS _).mono ?_
  rintro e w2 ⟨rfl, hgn⟩
  have hx := hx.gr hgn
  have hg := hg.trans hgn
  clear hgn 
  have hc2 := hx.c2
  by_cases hq : Rm.sumN V 8 ≤ 500
  case neg =>
    rw [decide_eq_false hq]
    as_aux_lemma =>
      go_wp2_with fail
      refine (cA _).mono ?_
      rintro e w3 ⟨rfl, hgn⟩
      go_wp2
      go_ret
      exact ⟨rfl, hg.trans hgn⟩
  rw [decide_eq_true hq]
  have cP := cP hq
  have hn5 := hn5 hq
  clear cS
  go_wp2_with (first | (refine wpList_load_rule rfl _ rfl rfl hx ?_) | (refine wpList_load_ruleg (by rfl) _ rfl rfl hx ?_))
  refine (cP _).mono ?_
  rintro e w3 ⟨rfl, hgn⟩
  have hx := hx.gr hgn
  have hg := hg.trans hgn
  clear hgn 
  have hc2 := hx.c2
  clear cP
  by_cases h200 : 200 < pd
  · as_aux_lemma =>
      go_wp2_with fail
      refine (cA _).mono ?_
      rintro e w4 ⟨rfl, hgn⟩
      go_wp2
      go_ret
      exact ⟨rfl, hg.trans hgn⟩
  by_cases hbig : 259200000000 < b
  · as_aux_lemma =>
      go_wp2_with fail
      refine (cA _).mono ?_
      rintro e w4 ⟨rfl, hgn⟩
      go_wp2
      go_ret
      exact ⟨rfl, hg.trans hgn⟩
  have cU := cU (by omega) hq
  have hmt : m.tmod 50 = m % 50 := Int.tmod_eq_emod_of_nonneg (by omega)
  have hot : o.tmod 50 = o % 50 := Int.tmod_eq_emod_of_nonneg (by omega)
  have hm5 : 0 ≤ m % 50 ∧ m % 50 < 50 := by omega
  have ho5 : 0 ≤ o % 50 ∧ o % 50 < 50 := by omega
  have c1 := cU (b + 86400 * d) (m % 50) (by omega) (by omega)
  have c2 := cU (b + 86400 * d + 86400 * e1) (m % 50 + o % 50) (by omega) (by omega)
  have HP := Lib.hid (HP.out (m % 50).toNat (m % 50 + o % 50).toNat (by omega))
  have HS := Lib.hid (Nat.le_trans (HS.out (m % 50).toNat) (show _ ≤ 50 by omega))
  clear hq hn5 cU
  generalize m % 50 = x at *
  generalize o % 50 = y at *
  generalize chk V.r b = z at *
  generalize (if z = 0 then Ex.UL V.r b (b + 86400 * d) x.toNat else []) = L1 at *
  generalize (if z = 0 then Ex.UL V.r b (b + 86400 * d + 86400 * e1) (x + y).toNat else []) = L2 at *
  generalize (if z = 0 then Ex.UM V.r b (b + 86400 * d) x.toNat else false) = M1 at *
  generalize (if z = 0 then Ex.UM V.r b (b + 86400 * d + 86400 * e1) (x + y).toNat else false) = M2 at *
  clear cA
  go_wp2_with (first | (refine wpList_load_rule rfl _ rfl rfl hx ?_) | (refine wpList_load_ruleg (by rfl) _ rfl rfl hx ?_))
  refine (c1 _ hg).mono ?_
  rintro e w4 ⟨A, n, c, rfl, hgn, hN, hnc⟩
  have hx := hx.gr hgn
  have hg := hg.trans hgn
  clear hgn c1
  go_wp2_with (first | (refine wpList_load_rule rfl _ rfl rfl hx ?_) | (refine wpList_load_ruleg (by rfl) _ rfl rfl hx ?_))
  refine (c2 _ hg).mono ?_
  rintro e w5 ⟨A2, n2, c3, rfl, hgn, hN2, hnc2⟩
  have hg := hg.trans hgn
  have hP := HP.out
  have hS := HS.out
  have hNw := hN.out.gr hgn
  have hN3 := hN2.out.pre hP
  have hl1 := hNw.1
  have hl2 := hN2.out.1
  have hle := hP.length_le
  rw [hl1] at hN3
  rw [hl1, hl2] at hle
  have hi1 : (n : Int) ≤ (n2 : Int) := by omega
  have hi2 : (n2 : Int) ≤ (c3 : Int) := by omega
  have hi3 : (n : Int) ≤ (c3 : Int) := by omega
  have cQ := same_yes A A2 n c n c3 L1 w5 hNw hN3 (by omega)
  clear hgn c2 hP HP HS hN hN2 hNw hN3 hl1 hl2 hS
  go_wp2_with fail
  refine cQ.mono ?_
  rintro e w6 ⟨rfl, hg6⟩
  go_wp2
  go_ret
  exact ⟨rfl, hg.trans hg6⟩
end Go.Proofs.YtmbmkldcedkbmaaGreat
