/- The texts WXUntil, PXUntil, one behind the other. -/
import Derived.Test.YtmbmkldcedkbmaaGreatZYd
import Derived.BigQuiet
import Derived.Test.YtmbmkldcedkbmaaGreatRows
import Derived.Test.YtmbmkldcedkbmaaGreatZM
import Derived.ProofKit
import Derived.OpenShut
import Derived.Deep.DeepHandedRow
import Derived.Lay
namespace Go.Proofs.YtmbmkldcedkbmaaGreat
open Go.RowKit

theorem Nums.pre {w : World} {B : Nat} {A : Option Addr} {n : Nat} {xs ys : List Int} (h : Nums w B A n xs) (hp : ys <+: xs) : Nums w B A ys.length ys := by
  refine ⟨rfl, fun h0 => ?_⟩
  obtain ⟨t, rfl⟩ := hp
  obtain ⟨ad, e, hb, hc⟩ := h.2 (by have := h.1; simp at this; omega)
  exact ⟨ad, e, hb, fun j u hu => hc j u (by rw [List.getElem?_append_left (by exact (List.getElem?_eq_some_iff.1 hu).1)]; exact hu)⟩
theorem untE_eq {r : Rm.Ru} {b most : Int} : untE r b most = if Rm.fm r = false then 10 else if Clk.okB b = false then 2 else if most < 0 then 1 else 0 := by
  unfold untE chk
  split <;> split <;> simp_all
/- the list and the flag of a call, beside the reference's list: as the law asks of them -/
theorem untL (r : Rm.Ru) (b last most : Int) (h0 : 0 ≤ most) :
    (300 < most → 300 < (Ex.means r b last 301).length → 300 ≤ (Ex.UL r b last most.toNat).length ∧ (Ex.UL r b last most.toNat).take 300 = (Ex.means r b last 301).take 300) ∧
    (300 < most → ¬ 300 < (Ex.means r b last 301).length → Ex.UM r b last most.toNat = false ∧ Ex.UL r b last most.toNat = Ex.means r b last 301) ∧
    (most ≤ 300 → Ex.UM r b last most.toNat = decide (most < ((Ex.means r b last (most + 1).toNat).length : Int)) ∧ Ex.UL r b last most.toNat = (Ex.means r b last (most + 1).toNat).take most.toNat) := by
  rw [← Ex.UL_means, ← Ex.UL_means]
  unfold Ex.UL Ex.UM
  generalize Ex.cutC r (Ex.expL r b last) = C
  simp only [List.length_take]
  refine ⟨fun h1 h2 => ⟨by omega, ?_⟩, fun h1 h2 => ⟨decide_eq_false (by omega), ?_⟩, fun h1 => ⟨?_, ?_⟩⟩
  · rw [List.take_take, List.take_take]; congr 1; omega
  · rw [List.take_of_length_le (by omega), List.take_of_length_le (by omega)]
  · refine decide_eq_decide.2 ?_; omega
  · rw [List.take_take]; congr 1; omega
set_option maxRecDepth 100000 in
set_option maxHeartbeats 16000000 in
theorem xuntil_any (V : Rm.Rv) (b d most : Int) (w : World) (hM : RuM w w.heap.size V) (hz : V.z.size ≤ 9223372036854775807) (hd : V.day.n ≤ 140737488355328) (hn : ∀ i, i < 8 → (V.sl i).n ≤ 140737488355328)
    (hbl : -9223372036854775808 ≤ b) (hbh : b ≤ 9223372036854775807) (hd1 : 0 ≤ d) (hm1 : -9223372036854775808 ≤ most) (hm2 : most ≤ 9223372036854775807) :
    Calls Tryz.prog 4 #[.agg V.val, .int .i64 b, .int .u16 d, .int .i64 most] w fun e w' => e = .returned (.bool true) ∧ Gr w w' := by
  have HX := RBx.now w V 27
  have hg : Gr w (w.alloc (.cells V.val 27)) := (Gr.refl w).allocO _
  have cA := fun w' => awake15_any w'
  have cS := fun w' => few_any V w' hd hn
  have hn5 : Rm.sumN V 8 ≤ 500 → ∀ i, i < 8 → (V.sl i).n ≤ 500 := fun hq i hi => Rm.sumN_at V hi hq
  have cP := fun (hq : Rm.sumN V 8 ≤ 500) w' => perday_any V w' (hn5 hq)
  have cU := fun (hq : Rm.sumN V 8 ≤ 500) last (hl : last ≤ 9223372036854775807) w' (g : Gr w w') => until_any V b last most w' (hM.gr g) (Nat.le_trans (Rm.sumN_day V hq) (by omega)) (fun i hi => Nat.le_trans (hn5 hq i hi) (by omega)) hl
  have cF := fun w' (g : Gr w w') => rformed_any V w' (hM.gr g) hz hd hn
  have cR := fun w' => rright_any b w'
  have cM := Lib.hid (fun (hf : Rm.fm V.r = true) (hb : Clk.okB b = true) last m1 (h1 : -2000000000000000 ≤ last) (h2 : last ≤ 2000000000000000) (h3 : 0 ≤ m1) (h4 : m1 ≤ 1000) (hp : PD V ≤ 200) w' (g : Gr w w') => rmeans_any V b last m1 w' (hM.gr g) hd hn hf hb h1 h2 h3 h4 hp (fm_until hf))
  have HC : Hid (untE V.r b most = if Rm.fm V.r = false then 10 else if Clk.okB b = false then 2 else if most < 0 then 1 else 0) := Lib.hid untE_eq
  have HU := Lib.hid (fun last => untL V.r b last most)
  generalize untE V.r b most = z at *
  clear hM hz hd hn
  go_enter Tryz.func4, Tryz.ntmps4
  go_upto_region 1 with fail
  have hx := HX
  have hc2 := hx.c2
  clear HX
  generalize w.alloc (.cells V.val 27) = W at *
  go_wp2_with (first | (refine wpList_load_rule rfl _ rfl rfl hx ?_) | (refine wpList_load_ruleg (by rfl) _ rfl rfl hx ?_))
  refine (cA _).mono ?_
  rintro e w1 ⟨rfl, hgn⟩
  have hx := hx.gr hgn
  have hg := hg.trans hgn
  clear hgn 
  have hc2 := hx.c2
  go_wp2_with (first | (refine wpList_load_rule rfl _ rfl rfl hx ?_) | (refine wpList_load_ruleg (by rfl) _ rfl rfl hx ?_))
  refine (cS _).mono ?_
  rintro e w2 ⟨rfl, hgn⟩
  have hx := hx.gr hgn
  have hg := hg.trans hgn
  clear hgn 
  have hc2 := hx.c2
  by_cases hq : Rm.sumN V 8 ≤ 500
  case neg =>
    rw [decide_eq_false hq]
    as_aux_lemma =>
      go_wp2_with fail
      refine (cA _).mono ?_
      rintro e w3 ⟨rfl, hgn⟩
      go_wp2
      go_ret
      exact ⟨rfl, hg.trans hgn⟩
  rw [decide_eq_true hq]
  have cU1 := cU hq
  have cP1 := cP hq
  clear cS cA cU cP hn5
  have hdt : d.tmod 2500 = d % 2500 := Int.tmod_eq_emod_of_nonneg (by omega)
  have hdq : 0 ≤ d % 2500 ∧ d % 2500 < 2500 := by omega
  generalize d % 2500 = q at *
  obtain ⟨q0, q1⟩ := hdq
  by_cases hbig : 1125899906842624 < b
  · as_aux_lemma =>
    clear cU1 cP1 cM HU
    go_wp2
    go_ret
    exact ⟨rfl, hg⟩
  by_cases hsm : b < -1125899906842624
  · as_aux_lemma =>
    clear cU1 cP1 cM HU
    have hd1 : decide (1125899906842624 < b) = false := decide_eq_false hbig
    go_wp2
    go_ret
    exact ⟨rfl, hg⟩
  have hdb1 : decide (1125899906842624 < b) = false := decide_eq_false hbig
  have hdb2 : decide (b < -1125899906842624) = false := decide_eq_false hsm
  have hwq : IntKind.i64.wrap (86400 * q) = 86400 * q := IntWalk.i64_in _ ⟨by omega, by omega⟩
  have hwb : IntKind.i64.wrap (b + 86400 * q) = b + 86400 * q := IntWalk.i64_in _ ⟨by omega, by omega⟩
  have cU2 := cU1 (b + 86400 * q) (by omega)
  have HU2 := Lib.hid (HU.out (b + 86400 * q))
  clear cU1 HU
  go_wp2_with (first | (refine wpList_load_rule rfl _ rfl rfl hx ?_) | (refine wpList_load_ruleg (by rfl) _ rfl rfl hx ?_) | (rw [hdb2]; refine wpList_load_ruleg (by rfl) _ rfl rfl hx ?_))
  refine (cP1 _).mono ?_
  rintro e w3 ⟨rfl, hgn⟩
  have hx := hx.gr hgn
  have hg := hg.trans hgn
  clear hgn cP1
  have hc2 := hx.c2
  by_cases h200 : 200 < PD V
  · as_aux_lemma =>
    clear cU2 cM HU2
    generalize PD V = pd at *
    go_wp2
    go_ret
    exact ⟨rfl, hg⟩
  have hpd : PD V ≤ 200 := by omega
  have cM2 := Lib.hid (fun hf hb m1 h1 h2 h3 h4 => cM.out hf hb (b + 86400 * q) m1 h1 h2 h3 h4 hpd)
  clear cM
  generalize PD V = pd at *
  obtain ⟨last, hlast⟩ : ∃ last, b + 86400 * q = last := ⟨_, rfl⟩
  have HLA := Lib.hid hlast
  rw [hlast] at hwb cU2 cM2 HU2
  generalize hM0 : (if z = 0 then Ex.UM V.r b last most.toNat else false) = M at *
  generalize hL0 : (if z = 0 then Ex.UL V.r b last most.toNat else []) = L at *
  have HML := Lib.hid (And.intro hM0 hL0)
  clear hM0 hL0
  go_wp2_with (first | (refine wpList_load_rule rfl _ rfl rfl hx ?_) | (refine wpList_load_ruleg (by rfl) _ rfl rfl hx ?_))
  refine (cU2 _ hg).mono ?_
  rintro e w4 ⟨A, n, c, rfl, hgn, hN, hnc⟩
  have hx := hx.gr hgn
  have hg := hg.trans hgn
  have hln := hN.out.1
  clear hgn cU2
  go_wp2_with (first | (refine wpList_load_rule rfl _ rfl rfl hx ?_) | (refine wpList_load_ruleg (by rfl) _ rfl rfl hx ?_))
  refine (cF _ hg).mono ?_
  rintro e w5 ⟨rfl, hgn⟩
  have hx := hx.gr hgn
  have hN := Lib.hid (hN.out.gr hgn)
  have hg := hg.trans hgn
  clear hgn cF
  have hc2 := hx.c2
  by_cases hf : Rm.fm V.r = false
  · as_aux_lemma =>
    have hz : z = 10 := by rw [HC.out, if_pos hf]
    rw [hf]
    have hm0 : n = 0 := by rw [← hln, ← HML.out.2, hz]; rfl
    have hmm : M = false := by rw [← HML.out.1, hz]; rfl
    subst hm0 hmm hz
    clear HC HML HU2 hln cM2 hlast hwb
    go_wp2
    go_ret
    exact ⟨by first | rfl | simp, hg⟩
  have hf1 : Rm.fm V.r = true := by simpa using hf
  rw [hf1]
  go_wp2_with fail
  refine (cR _).mono ?_
  rintro e w6 ⟨rfl, rfl⟩
  by_cases hb : Clk.okB b = false
  · as_aux_lemma =>
    have hz : z = 2 := by rw [HC.out, if_neg hf, if_pos hb]
    rw [hb]
    have hm0 : n = 0 := by rw [← hln, ← HML.out.2, hz]; rfl
    have hmm : M = false := by rw [← HML.out.1, hz]; rfl
    subst hm0 hmm hz
    clear HC HML HU2 hln cM2 hlast hwb
    go_wp2
    go_ret
    exact ⟨by first | rfl | simp, hg⟩
  have hb1 : Clk.okB b = true := by simpa using hb
  rw [hb1]
  by_cases hmn : most < 0
  · as_aux_lemma =>
    have hz : z = 1 := by rw [HC.out, if_neg hf, if_neg hb, if_pos hmn]
    have hm0 : n = 0 := by rw [← hln, ← HML.out.2, hz]; rfl
    have hmm : M = false := by rw [← HML.out.1, hz]; rfl
    subst hm0 hmm hz
    clear HC HML HU2 hln cM2 hlast hwb
    go_wp2
    go_ret
    exact ⟨by first | rfl | simp, hg⟩
  have hz : z = 0 := by rw [HC.out, if_neg hf, if_neg hb, if_neg hmn]
  subst hz
  obtain ⟨bb1, bb2⟩ := Clk.okB_iff.1 hb1
  have hlb : -2000000000000000 ≤ last ∧ last ≤ 2000000000000000 := by omega
  have hU := HU2.out (by omega)
  have hMe : Ex.UM V.r b last most.toNat = M := by have := HML.out.1; rwa [if_pos rfl] at this
  have hLe : Ex.UL V.r b last most.toNat = L := by have := HML.out.2; rwa [if_pos rfl] at this
  rw [hMe, hLe] at hU
  have h0m : 0 ≤ most := by omega
  have HU3 := Lib.hid hU
  have cM3 := Lib.hid (cM2.out hf1 hb1)
  clear HML HC HU2 cM2 hMe hLe hU hbig hsm hdb1 hdb2 hwq hlast hf hb hmn
  by_cases h3 : 300 < most
  · have hmn : min most 300 = 300 := by omega
    have hw1 : IntKind.i64.wrap (300 + 1) = 301 := by decide
    have c1 := cM3.out 301 (by omega) (by omega) (by omega) (by omega)
    rw [show (301 : Int).toNat = 301 from rfl] at c1
    have HU := Lib.hid (And.intro (HU3.out.1 h3) (HU3.out.2.1 h3))
    clear cM3 HU3
    generalize Ex.means V.r b last 301 = MS at *
    go_wp2_with (first | (refine wpList_load_rule rfl _ rfl rfl hx ?_) | (refine wpList_load_ruleg (by rfl) _ rfl rfl hx ?_))
    refine (c1 _ hg).mono ?_
    rintro e w7 ⟨B, nw, cw, rfl, hgn, hNw, hnw⟩
    have hg := hg.trans hgn
    have hN := Lib.hid (hN.out.gr hgn)
    have hlw := hNw.out.1
    clear hgn c1
    by_cases h4 : 300 < nw
    · as_aux_lemma =>
      obtain ⟨u1, u2⟩ := HU.out.1 (by rw [hlw]; exact h4)
      have hn3 : 300 ≤ n := by rw [← hln]; exact u1
      have hA3 := hN.out.pre (List.take_prefix 300 L)
      have hB3 := hNw.out.pre (List.take_prefix 300 MS)
      rw [List.length_take, hln, Nat.min_eq_left hn3] at hA3
      rw [List.length_take, hlw, Nat.min_eq_left (by omega), ← u2] at hB3
      have cQ := fun w' (g : Gr w7 w') => same_yes A B 300 c 300 cw (L.take 300) w' (hA3.gr g) (hB3.gr g) (by omega)
      have g1 : (300 : Int) ≤ (n : Int) := by omega
      have g2 : (300 : Int) ≤ (c : Int) := by omega
      have g3 : (300 : Int) ≤ (cw : Int) := by omega
      have g4 : (300 : Int) < (nw : Int) := by omega
      clear hA3 hB3 u1 u2 HU hN hNw hln hlw
      go_upto_region 16 with fail
      refine wp_region_S 15 (fun w' : World => Gr w7 w') (by kernel_rfl) rfl ?_
      have hS0 : (fun w' : World => Gr w7 w') w7.drew := (Gr.refl _).drew
      generalize w7.drew = W1 at *
      refine WkS.take (i := 0) (v := ?_) (at_lit rfl) (by kernel_rfl) (by kernel_rfl) (by kernel_rfl) rfl (fun _ _ _ h => by first | exact h | (cases h.1)) ?_ hS0 ?_
      rotate_left 1
      · intro w' hw
        clear hw
        go_simp
        first | done | rfl
      try simp only [Act.put, List.setIfInBounds_toArray, List.set_cons_zero, List.set_cons_succ]
      refine WkS.take (i := 1) (v := .bool true) (at_lit rfl) (by kernel_rfl) (by kernel_rfl) (by kernel_rfl) rfl (fun _ _ _ h => by first | exact h | (cases h.1)) ?_ hS0 ?_
      · intro w' hw
        clear hw
        go_simp
        first | done | rfl
      try simp only [Act.put, List.setIfInBounds_toArray, List.set_cons_zero, List.set_cons_succ]
      refine WkS.take (i := 2) (v := .bool true) (at_lit rfl) (by kernel_rfl) (by kernel_rfl) (by kernel_rfl) rfl (fun _ _ _ h => by first | exact h | (cases h.1)) ?_ hS0 ?_
      · intro w' hw
        clear hw
        go_simp
        first | done | rfl
      try simp only [Act.put, List.setIfInBounds_toArray, List.set_cons_zero, List.set_cons_succ]
      refine WkS.takeg (i := 3) (v := ?_) (at_lit rfl) (by kernel_rfl) (by kernel_rfl) (by kernel_rfl) (by first | rfl | kernel_rfl) (fun _ _ _ h => by first | exact h | (cases h.1)) ?_ hS0 ?_
      rotate_left 1
      · intro w' hw
        clear hw
        go_simp
        first | done | rfl
      try simp only [Act.put, List.setIfInBounds_toArray, List.set_cons_zero, List.set_cons_succ]
      refine WkS.takeg (i := 4) (v := ?_) (at_lit rfl) (by kernel_rfl) (by kernel_rfl) (by kernel_rfl) (by first | rfl | kernel_rfl) (fun _ _ _ h => by first | exact h | (cases h.1)) ?_ hS0 ?_
      rotate_left 1
      · intro w' hw
        clear hw
        go_simp
        first | done | rfl
      try simp only [Act.put, List.setIfInBounds_toArray, List.set_cons_zero, List.set_cons_succ]
      refine WkS.takeg (i := 5) (v := .bool true) (at_lit rfl) (by kernel_rfl) (by kernel_rfl) (by kernel_rfl) (by first | rfl | kernel_rfl) (fun _ _ _ h => by first | exact h | (cases h.1)) ?_ hS0 ?_
      · intro w' hw
        clear hw
        go_simp
        first | done | rfl
      try simp only [Act.put, List.setIfInBounds_toArray, List.set_cons_zero, List.set_cons_succ]
      refine WkS.take (i := 6) (v := .bool true) (at_lit rfl) (by kernel_rfl) (by kernel_rfl) (by kernel_rfl) rfl (fun _ _ _ h => by first | exact h | (cases h.1)) ?_ hS0 ?_
      · intro w' hw
        clear hw
        go_simp
        first | done | rfl
      try simp only [Act.put, List.setIfInBounds_toArray, List.set_cons_zero, List.set_cons_succ]
      refine WkS.take (i := 7) (v := .bool true) (at_lit rfl) (by kernel_rfl) (by kernel_rfl) (by kernel_rfl) rfl (fun _ _ _ h => by first | exact h | (cases h.1)) ?_ hS0 ?_
      · intro w' hw
        clear hw
        go_simp
        first | done | rfl
      try simp only [Act.put, List.setIfInBounds_toArray, List.set_cons_zero, List.set_cons_succ]
      refine WkS.takeg (i := 8) (v := ?_) (at_lit rfl) (by kernel_rfl) (by kernel_rfl) (by kernel_rfl) (by first | rfl | kernel_rfl) (fun _ _ _ h => by first | exact h | (cases h.1)) ?_ hS0 ?_
      rotate_left 1
      · intro w' hw
        clear hw
        go_simp
        first | done | rfl
      try simp only [Act.put, List.setIfInBounds_toArray, List.set_cons_zero, List.set_cons_succ]
      refine WkS.takeg (i := 9) (v := ?_) (at_lit rfl) (by kernel_rfl) (by kernel_rfl) (by kernel_rfl) (by first | rfl | kernel_rfl) (fun _ _ _ h => by first | exact h | (cases h.1)) ?_ hS0 ?_
      rotate_left 1
      · intro w' hw
        clear hw
        go_simp
        first | done | rfl
      try simp only [Act.put, List.setIfInBounds_toArray, List.set_cons_zero, List.set_cons_succ]
      refine WkS.takeg (i := 10) (v := ?_) (at_lit rfl) (by kernel_rfl) (by kernel_rfl) (by kernel_rfl) (by first | rfl | kernel_rfl) (fun _ _ _ h => by first | exact h | (cases h.1)) ?_ hS0 ?_
      rotate_left 1
      · intro w' hw
        clear hw
        go_simp
        first | done | rfl
      try simp only [Act.put, List.setIfInBounds_toArray, List.set_cons_zero, List.set_cons_succ]
      refine WkS.takeg (i := 11) (v := ?_) (at_lit rfl) (by kernel_rfl) (by kernel_rfl) (by kernel_rfl) (by first | rfl | kernel_rfl) (fun _ _ _ h => by first | exact h | (cases h.1)) ?_ hS0 ?_
      rotate_left 1
      · intro w' hw
        clear hw
        go_simp
        first | done | rfl
      try simp only [Act.put, List.setIfInBounds_toArray, List.set_cons_zero, List.set_cons_succ]
      refine WkS.these (is := [12]) (by kernel_rfl) (by simp) (fun i hi => ?_)
      obtain rfl := List.mem_singleton.1 hi
      clear hi
      refine WkS.opg (at_lit rfl) (by first | rfl | kernel_rfl) (fun K hK => ?_)
      go_simp
      refine (cQ _ hS0).mono ?_
      rintro e w8 ⟨rfl, hg8⟩
      refine hK _ _ ⟨hS0.trans hg8, ?_⟩
      clear hK K
      have hS0 := hS0.trans hg8
      clear hg8
      try simp only [Act.put, List.setIfInBounds_toArray, List.set_cons_zero, List.set_cons_succ]
      refine WkS.take (i := 13) (v := .bool true) (at_lit rfl) (by kernel_rfl) (by kernel_rfl) (by kernel_rfl) rfl (fun _ _ _ h => by first | exact h | (cases h.1)) ?_ hS0 ?_
      · intro w' hw
        clear hw
        go_simp
        first | done | rfl
      try simp only [Act.put, List.setIfInBounds_toArray, List.set_cons_zero, List.set_cons_succ]
      refine WkS.take (i := 14) (v := .bool true) (at_lit rfl) (by kernel_rfl) (by kernel_rfl) (by kernel_rfl) rfl (fun _ _ _ h => by first | exact h | (cases h.1)) ?_ hS0 ?_
      · intro w' hw
        clear hw
        go_simp
        first | done | rfl
      try simp only [Act.put, List.setIfInBounds_toArray, List.set_cons_zero, List.set_cons_succ]
      refine WkS.done (by kernel_rfl) ?_
      go_wp2
      go_ret
      exact ⟨rfl, hg.trans hS0⟩
    · as_aux_lemma =>
      obtain ⟨u1, u2⟩ := HU.out.2 (by rw [hlw]; exact h4)
      have hn7 : n = nw := by rw [← hln, ← hlw, u2]
      subst u1 u2 hn7
      have cQ := same_yes A B n c n cw L w7 hN.out hNw.out (by omega)
      have g1 : min (300 : Int) (n : Int) = (n : Int) := by omega
      have g2 : (n : Int) ≤ (cw : Int) := by omega
      have g4 : ¬ (300 : Int) < (n : Int) := by omega
      have g5 : decide ((300 : Int) < (n : Int)) = false := decide_eq_false g4
      clear HU hN hNw hln hlw
      go_wp2_with fail
      refine cQ.mono ?_
      rintro e w8 ⟨rfl, hg8⟩
      go_wp2
      go_ret
      exact ⟨rfl, hg.trans hg8⟩
  · have h3b : most ≤ 300 := by omega
    have h3m : 0 ≤ most := by omega
    obtain ⟨mn, rfl⟩ : ∃ mn : Nat, most = (mn : Int) := ⟨most.toNat, by omega⟩
    have hmn : min (mn : Int) 300 = (mn : Int) := by omega
    have hw1 : IntKind.i64.wrap ((mn : Int) + 1) = (mn : Int) + 1 := IntWalk.i64_in _ ⟨by omega, by omega⟩
    have c1 := cM3.out ((mn : Int) + 1) (by omega) (by omega) (by omega) (by omega)
    have HU := Lib.hid (HU3.out.2.2 h3b)
    clear cM3 HU3
    generalize Ex.means V.r b last ((mn : Int) + 1).toNat = MS at *
    go_wp2_with (first | (refine wpList_load_rule rfl _ rfl rfl hx ?_) | (refine wpList_load_ruleg (by rfl) _ rfl rfl hx ?_))
    refine (c1 _ hg).mono ?_
    rintro e w7 ⟨B, nw, cw, rfl, hgn, hNw, hnw⟩
    have hg := hg.trans hgn
    have hN := Lib.hid (hN.out.gr hgn)
    have hlw := hNw.out.1
    clear hgn c1
    obtain ⟨u1, u2⟩ := HU.out
    rw [show ((mn : Int)).toNat = mn from rfl] at u2
    by_cases h4 : mn < nw
    · as_aux_lemma =>
      have hn7 : n = mn := by rw [← hln, u2, List.length_take, hlw]; omega
      have v1 : M = true := by rw [u1, hlw]; exact decide_eq_true (by omega)
      clear u1
      subst hn7 v1
      have hB3 := hNw.out.pre (List.take_prefix n MS)
      rw [← u2, hln] at hB3
      have cQ := same_yes A B n c n cw L w7 hN.out hB3 (by omega)
      have g1 : min (n : Int) (nw : Int) = (n : Int) := by omega
      have g2 : (n : Int) ≤ (cw : Int) := by omega
      have g4 : (n : Int) < (nw : Int) := by omega
      have g5 : decide ((n : Int) < (nw : Int)) = true := decide_eq_true g4
      clear HU hN hNw hln hlw u2 hB3
      go_wp2_with fail
      refine cQ.mono ?_
      rintro e w8 ⟨rfl, hg8⟩
      go_wp2
      go_ret
      exact ⟨rfl, hg.trans hg8⟩
    · as_aux_lemma =>
      have v1 : M = false := by rw [u1, hlw]; exact decide_eq_false (by omega)
      have v2 : L = MS := by rw [u2]; exact List.take_of_length_le (by omega)
      have hn7 : n = nw := by rw [← hln, ← hlw, v2]
      clear u1 u2
      subst v1 v2 hn7
      have cQ := same_yes A B n c n cw L w7 hN.out hNw.out (by omega)
      have g1 : min (mn : Int) (n : Int) = (n : Int) := by omega
      have g2 : (n : Int) ≤ (cw : Int) := by omega
      have g4 : ¬ (mn : Int) < (n : Int) := by omega
      have g5 : decide ((mn : Int) < (n : Int)) = false := decide_eq_false g4
      clear HU hN hNw hln hlw
      go_wp2_with fail
      refine cQ.mono ?_
      rintro e w8 ⟨rfl, hg8⟩
      go_wp2
      go_ret
      exact ⟨rfl, hg.trans hg8⟩
end Go.Proofs.YtmbmkldcedkbmaaGreat
namespace Go.Proofs.YtmbmkldcedkbmaaGreat
namespace PXUntil
open Go.ChangeShapes Go.WideShapes Go.ChangeAt Go.RowKit

theorem own : ownKnob Tryz.prog.godebug = none := by kernel_rfl
set_option maxRecDepth 100000 in
theorem contract (H : Type) (enc : TypeId × Value → H) (W : World) (base : Nat) (args : Array Value) (ds gs : List (DataW H)) (before : List MemPlace)
    (hval : ∀ (j : Nat) t v, Tryz.f4.params[j]? = some t → args[j]? = some v → Value.okWide Tryz.prog W .any base t v)
    (hW : DataW.Whole enc Tryz.prog Tryz.f4.params.toList Rows.expandUntilSpec.vars false W args.toList ds gs before) (hsz0 : (DataW.weightsEach Tryz.prog (Tryz.f4.params.toList ++ Rows.expandUntilSpec.plain.varTypes Tryz.prog) (ds ++ gs)).all (· ≤ reachBytes) = true) :
    Calls Tryz.prog 4 args W fun e W' => ∃ v, e = .returned v ∧ Rows.expandUntilSpec.post enc Tryz.prog Tryz.f4 false true false false W args v W' := by
  have hW' := hW
  have hsz := hsz0
  obtain ⟨p, q, hA0, hV, rfl, _, _⟩ := hW
  have hA : DataW.TrodAll enc Tryz.prog W 0 (fun _ => true) true Tryz.f4.params.toList args.toList ds p := hA0
  rw [Tryz.params4] at hA hval hsz
  obtain ⟨v0, vs0, d0, ds0, p0, q0, hargs, rfl, rfl, h0, r0⟩ := trodAll_cons hA
  obtain ⟨v1, vs1, d1, ds1, p1, q1, rfl, rfl, rfl, h1, r1⟩ := trodAll_cons r0
  obtain ⟨v2, vs2, d2, ds2, p2, q2, rfl, rfl, rfl, h2, r2⟩ := trodAll_cons r1
  obtain ⟨v3, vs3, d3, ds3, p3, q3, rfl, rfl, rfl, h3, r3⟩ := trodAll_cons r2
  obtain ⟨rfl, rfl, rfl⟩ := trodAll_nil r3
  obtain rfl : args = #[v0, v1, v2, v3] := by cases args; simp_all
  have k0 := h0
  have k1 := h1
  have k2 := h2
  have k3 := h3
  obtain ⟨rfl, rfl⟩ := trodVars_none hV
  obtain ⟨V0, rfl, hM0, hz0, hd0, hn0⟩ := read_rule2 h0 (hval 0 27 v0 rfl rfl) (weigh hsz (j := 0) rfl rfl)
  obtain ⟨a1, rfl, _, _, wf1⟩ := open_int Tryz.underlying2 (hval 1 2 v1 rfl rfl) h1
  have bd1 := bounds_i64 wf1
  obtain ⟨a2, rfl, _, _, wf2⟩ := open_int Tryz.underlying40 (hval 2 40 v2 rfl rfl) h2
  have bd2 := bounds_u16 wf2
  obtain ⟨a3, rfl, _, _, wf3⟩ := open_int Tryz.underlying3 (hval 3 3 v3 rfl rfl) h3
  have bd3 := bounds_i64 wf3
  have hlt : ∀ x ∈ (p0 ++ (p1 ++ (p2 ++ (p3 ++ [])))), x.block < W.heap.size := fun x hx => hW'.lt x (by simpa using hx)
  clear hA0
  refine (xuntil_any V0 a1 a2 a3 W hM0 hz0 hd0 hn0 bd1.1 bd1.2 bd2.1 bd3.1 bd3.2).mono fun e W' ⟨he, hg⟩ => ?_
  subst he
  exact ⟨_, rfl, post_of_gr2 hW' (trodAll_cons_mk (shut_bool Tryz.underlying4 _) trodAll_mk0) (trodAll_cons_mk (Below.trod laidOut8 (by kernel_rfl) (of_decide_eq_true (by kernel_rfl)) k0 hg.below (fun x hx => hlt x (by simp [hx]))) (trodAll_cons_mk (Below.trod laidOut8 (by kernel_rfl) (of_decide_eq_true (by kernel_rfl)) k1 hg.below (fun x hx => hlt x (by simp [hx]))) (trodAll_cons_mk (Below.trod laidOut8 (by kernel_rfl) (of_decide_eq_true (by kernel_rfl)) k2 hg.below (fun x hx => hlt x (by simp [hx]))) (trodAll_cons_mk (Below.trod laidOut8 (by kernel_rfl) (of_decide_eq_true (by kernel_rfl)) k3 hg.below (fun x hx => hlt x (by simp [hx]))) trodAll_mk0)))) rfl hg⟩
theorem laid_met (os : Os) : laidMet Tryz.prog Rows.expandUntilRow.laid ((World.laidAll Tryz.prog os Rows.expandUntilRow.laid).forCall (fun _ _ => 0) ⟨#[], #[.agg #[.int .i64 0, .int .i64 0, .int .i64 0, .int .i64 0, .int .i64 0, .string ⟨#[]⟩, .bool false, .int .i64 0, .slice none 0 0, .slice none 0 0, .slice none 0 0, .slice none 0 0, .slice none 0 0, .slice none 0 0, .slice none 0 0, .slice none 0 0, .slice none 0 0], .int .i64 0, .int .u16 0, .int .i64 0], []⟩).memory :=
  laidMet_laidAll _ (by kernel_rfl) (by kernel_rfl)
theorem reads (os : Os) {H : Type} (enc : TypeId × Value → H) : ∃ places, DataW.whole enc Tryz.prog ((World.laidAll Tryz.prog os Rows.expandUntilRow.laid).forCall (fun _ _ => 0) ⟨#[], #[.agg #[.int .i64 0, .int .i64 0, .int .i64 0, .int .i64 0, .int .i64 0, .string ⟨#[]⟩, .bool false, .int .i64 0, .slice none 0 0, .slice none 0 0, .slice none 0 0, .slice none 0 0, .slice none 0 0, .slice none 0 0, .slice none 0 0, .slice none 0 0, .slice none 0 0], .int .i64 0, .int .u16 0, .int .i64 0], []⟩).memory Tryz.f4.params.toList Rows.expandUntilSpec.vars false (#[.agg #[.int .i64 0, .int .i64 0, .int .i64 0, .int .i64 0, .int .i64 0, .string ⟨#[]⟩, .bool false, .int .i64 0, .slice none 0 0, .slice none 0 0, .slice none 0 0, .slice none 0 0, .slice none 0 0, .slice none 0 0, .slice none 0 0, .slice none 0 0, .slice none 0 0], .int .i64 0, .int .u16 0, .int .i64 0] : Array Value).toList 8 = some ([.agg [.lit (.int .i64 0), .lit (.int .i64 0), .lit (.int .i64 0), .agg [.lit (.int .i64 0), .lit (.int .i64 0), .lit (.string [])], .lit (.bool false), .lit (.int .i64 0), .nil, .nil, .nil, .nil, .nil, .nil, .nil, .nil, .nil], .lit (.int .i64 0), .lit (.int .u16 0), .lit (.int .i64 0)], [], places) :=
  ⟨[], by kernel_rfl⟩
set_option maxRecDepth 100000 in
theorem lifted (os : Os) (started : os.Started) (H : Type) (enc : TypeId × Value → H) (F : Stop.Interp) :
    ReturnsInHanded {} Tryz.checked os 4 .any ((OpenSpec.ofChange Rows.expandUntilSpec).preRow enc Tryz.prog Tryz.f4 Rows.expandUntilRow.domain false Rows.expandUntilRow.laid) (((OpenSpec.ofChange Rows.expandUntilSpec).at F).post enc Tryz.prog Tryz.f4 false true false false) := by
  obtain ⟨places, hx⟩ := reads os enc
  refine returnsInHanded_of_row (C := Tryz.checked) (s := OpenSpec.ofChange Rows.expandUntilSpec) own started (by kernel_rfl) Tryz.func4
    (witness_row_at (enc := enc) (C := Tryz.checked) false (World.laidAll Tryz.prog os Rows.expandUntilRow.laid) #[.agg #[.int .i64 0, .int .i64 0, .int .i64 0, .int .i64 0, .int .i64 0, .string ⟨#[]⟩, .bool false, .int .i64 0, .slice none 0 0, .slice none 0 0, .slice none 0 0, .slice none 0 0, .slice none 0 0, .slice none 0 0, .slice none 0 0, .slice none 0 0, .slice none 0 0], .int .i64 0, .int .u16 0, .int .i64 0] (World.laidAll_os _ _ _) (by kernel_rfl) (by kernel_rfl) (by kernel_rfl)
      (OpenSpec.preRow_of_cond 8 hx (by kernel_rfl) (fun k hk => by cases hk) (by kernel_rfl) (laid_met os))) ?_
  intro W base args ds gs before hval hW _ _ hsz _ _ _
  exact contract H enc W base args ds gs before hval hW hsz
theorem said : Rows.ExpandUntilSaid :=
  OpenClaim.holds_of_cond 4 Tryz.f4 rfl rfl rfl rfl rfl rfl rfl ⟨rfl, rfl, rfl, rfl, rfl⟩ rfl rfl rfl rfl rfl (by kernel_rfl) Tryz.func4 (by kernel_rfl)
    (of_decide_eq_true (by kernel_rfl)) (by unfold Func.isWrapper; first | (rw [if_pos (by decide +kernel)]; kernel_rfl) | (rw [if_neg (by decide +kernel)]; exact ⟨rfl, rfl⟩))
    (fun os started H enc _ F => by rw [OpenClaim.pre_eq_preRow]; exact lifted os started H enc F)
end PXUntil

theorem expandUntil_holds : Rows.ExpandUntilSaid := PXUntil.said
end Go.Proofs.YtmbmkldcedkbmaaGreat
