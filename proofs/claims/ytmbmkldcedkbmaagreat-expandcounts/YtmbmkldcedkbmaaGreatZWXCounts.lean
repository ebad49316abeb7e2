/- The law ExpandCounts returns true. -/
import Derived.Test.YtmbmkldcedkbmaaGreatZXl
import Derived.BigQuiet
namespace Go.Proofs.YtmbmkldcedkbmaaGreat
open Go.RowKit

namespace Ex
theorem UL_cnt_len {r : Rm.Ru} {b last : Int} (h : r.cnt ≠ 0) : (cutC r (expL r b last)).length ≤ r.cnt.toNat := by
  unfold cutC
  rw [if_neg h, List.length_take]; omega
theorem UL_rise {r : Rm.Ru} (hs : 0 ≤ r.st ∧ r.st ≤ 6) (hi : 1 ≤ r.ivl) (b last : Int) (m : Nat) : Rise (UL r b last m) := by
  unfold UL cutC
  split
  · exact (expL_rise hs hi b last).sublist (List.take_sublist _ _)
  · exact ((expL_rise hs hi b last).sublist (List.take_sublist _ _)).sublist (List.take_sublist _ _)
theorem UL_head {r : Rm.Ru} {b last : Int} {m : Nat} (h : b ≤ last) (hm : m ≠ 0) (hc : 0 ≤ r.cnt) : ∃ t, UL r b last m = b :: t := by
  rw [UL_means]; exact means_head h hm hc
end Ex
theorem fm_cnt {r : Rm.Ru} (hf : Rm.fm r = true) : 0 ≤ r.cnt ∧ r.cnt ≤ 1000 := by
  unfold Rm.fm Rm.fm1 at hf
  simp only [Bool.and_eq_true, decide_eq_true_eq] at hf
  omega
/- the list, and whether there are more, as the law asks of them -/
def CntL (r : Rm.Ru) (b : Int) (L : List Int) (mo : Bool) : Prop := Ex.Rise L ∧ L.length ≤ 100 ∧ (∃ t, L = b :: t) ∧ 0 ≤ r.cnt ∧ (r.cnt ≠ 0 → (L.length : Int) ≤ r.cnt ∧ mo = false)
theorem cntL (r : Rm.Ru) (b : Int) (hc : chk r b = 0) (h30 : r.cnt ≤ 30) : CntL r b (Ex.UL r b (b + 172800000) 100) (Ex.UM r b (b + 172800000) 100) := by
  have hfb : Rm.fm r = true := by
    unfold chk at hc
    split at hc
    · cases hc
    · rename_i h1; simpa using h1
  obtain ⟨f1, ⟨i1, i2⟩, f3⟩ := fm_head hfb
  have hcn := fm_cnt hfb
  refine ⟨Ex.UL_rise f3 i1 b _ 100, by unfold Ex.UL; rw [List.length_take]; omega, Ex.UL_head (by omega) (by decide) hcn.1, hcn.1, fun h => ?_⟩
  have h9 := Ex.UL_cnt_len (r := r) (b := b) (last := b + 172800000) h
  refine ⟨?_, ?_⟩
  · unfold Ex.UL
    rw [List.length_take]; omega
  · unfold Ex.UM
    simp; omega
set_option maxRecDepth 100000 in
set_option maxHeartbeats 8000000 in
theorem xcounts_any (V : Rm.Rv) (b : Int) (w : World) (hM : RuM w w.heap.size V) (hz : V.z.size ≤ 9223372036854775807) (hd : V.day.n ≤ 140737488355328) (hn : ∀ i, i < 8 → (V.sl i).n ≤ 140737488355328) (hbl : -9223372036854775808 ≤ b) :
    Calls Tryz.prog 5 #[.agg V.val, .int .i64 b] w fun e w' => e = .returned (.bool true) ∧ Gr w w' := by
  have HX := RBx.now w V 27
  have hg : Gr w (w.alloc (.cells V.val 27)) := (Gr.refl w).allocO _
  have cA := fun w' => awake15_any w'
  have cS := fun w' => few_any V w' hd hn
  have hn5 : Rm.sumN V 8 ≤ 500 → ∀ i, i < 8 → (V.sl i).n ≤ 500 := fun hq i hi => Rm.sumN_at V hi hq
  have cP := fun (hq : Rm.sumN V 8 ≤ 500) w' => perday_any V w' (hn5 hq)
  generalize PD V = pd at *
  have cU := fun (hb2 : b ≤ 259200000000) (hq : Rm.sumN V 8 ≤ 500) w' (g : Gr w w') => until_any V b (b + 172800000) 100 w' (hM.gr g) (Nat.le_trans (Rm.sumN_day V hq) (by omega)) (fun i hi => Nat.le_trans (hn5 hq i hi) (by omega)) (by omega)
  have cF := fun w' (g : Gr w w') => rformed_any V w' (hM.gr g) hz hd hn
  have cR := fun w' => rright_any b w'
  have hU : untE V.r b 100 = chk V.r b := by unfold untE; split <;> simp_all
  rw [hU, show (100 : Int).toNat = 100 from rfl] at cU
  have HC := Lib.hid (cntL V.r b)
  have HE : Hid (chk V.r b = if Rm.fm V.r = false then 10 else if Clk.okB b = false then 2 else 0) := Lib.hid rfl
  generalize Ex.UL V.r b (b + 172800000) 100 = L at *
  generalize Ex.UM V.r b (b + 172800000) 100 = mo at *
  generalize chk V.r b = z at *
  clear hU hM hz hd hn
  go_enter Tryz.func5, Tryz.ntmps5
  go_upto_region 1 with fail
  have hx := HX
  have hc2 := hx.c2
  clear HX
  generalize w.alloc (.cells V.val 27) = W at *
  go_wp2_with (first | (refine wpList_load_rule rfl _ rfl rfl hx ?_) | (refine wpList_load_ruleg (by rfl) _ rfl rfl hx ?_))
  refine (cA _).mono ?_
  rintro e w1 ⟨rfl, hgn⟩
  have hx := hx.gr hgn
  have hg := hg.trans hgn
  clear hgn 
  have hc2 := hx.c2
  go_wp2_with (first | (refine wpList_load_rule rfl _ rfl rfl hx ?_) | (refine wpList_load_ruleg (by rfl) _ rfl rfl hx ?_))
  refine (cS _).mono ?_
  rintro e w2 ⟨rfl, hgn⟩
  have hx := hx.gr hgn
  have hg := hg.trans hgn
  clear hgn 
  have hc2 := hx.c2
  by_cases hq : Rm.sumN V 8 ≤ 500
  case neg =>
    rw [decide_eq_false hq]
    as_aux_lemma =>
      go_wp2_with fail
      refine (cA _).mono ?_
      rintro e w3 ⟨rfl, hgn⟩
      go_wp2
      go_ret
      exact ⟨rfl, hg.trans hgn⟩
  rw [decide_eq_true hq]
  have cP := cP hq
  have hn5 := hn5 hq
  clear cS
  by_cases h30 : 30 < V.r.cnt
  · as_aux_lemma =>
      go_wp2_with fail
      refine (cA _).mono ?_
      rintro e w3 ⟨rfl, hgn⟩
      go_wp2
      go_ret
      exact ⟨rfl, hg.trans hgn⟩
  have hd30 : decide (30 < V.r.cnt) = false := decide_eq_false h30
  go_wp2_with (first | (refine wpList_load_rule rfl _ rfl rfl hx ?_) | (refine wpList_load_ruleg (by rfl) _ rfl rfl hx ?_) | (rw [hd30]; refine wpList_load_ruleg (by rfl) _ rfl rfl hx ?_))
  refine (cP _).mono ?_
  rintro e w3 ⟨rfl, hgn⟩
  have hx := hx.gr hgn
  have hg := hg.trans hgn
  clear hgn 
  have hc2 := hx.c2
  clear cP
  by_cases h200 : 200 < pd
  · as_aux_lemma =>
      go_wp2_with fail
      refine (cA _).mono ?_
      rintro e w4 ⟨rfl, hgn⟩
      go_wp2
      go_ret
      exact ⟨rfl, hg.trans hgn⟩
  by_cases hbig : 259200000000 < b
  · as_aux_lemma =>
      go_wp2_with fail
      refine (cA _).mono ?_
      rintro e w4 ⟨rfl, hgn⟩
      go_wp2
      go_ret
      exact ⟨rfl, hg.trans hgn⟩
  have cU := cU (by omega) hq
  have hwb : IntKind.i64.wrap (b + 172800000) = b + 172800000 := IntWalk.i64_in _ ⟨by omega, by omega⟩
  clear hq hn5
  go_wp2_with (first | (refine wpList_load_rule rfl _ rfl rfl hx ?_) | (refine wpList_load_ruleg (by rfl) _ rfl rfl hx ?_))
  refine (cU _ hg).mono ?_
  rintro e w4 ⟨A, n, c, rfl, hgn, hN, hnc⟩
  have hx := hx.gr hgn
  have hg := hg.trans hgn
  have hc2 := hx.c2
  clear hgn cU
  by_cases hc : z = 0
  · obtain rfl := hc
    rw [if_pos rfl] at hN
    rw [if_pos rfl]
    have HC := HC.out rfl (by omega)
    clear HE cF cR
    obtain ⟨hri, hl1, ⟨t, ht⟩, hc0, hlen⟩ := HC
    have hl : L.length = n := hN.out.1
    have hn1 : n ≤ 100 := by omega
    have hn0 : 0 < n := by rw [← hl, ht]; simp
    have hcn : V.r.cnt = 0 ∨ (V.r.cnt ≠ 0 ∧ (n : Int) ≤ V.r.cnt ∧ mo = false) := by
      by_cases h : V.r.cnt = 0
      · exact .inl h
      · obtain ⟨h1, h2⟩ := hlen h
        exact .inr ⟨h, by omega, h2⟩
    have hup : ∀ (i j : Nat) (x y : Int), i < j → L[i]? = some x → L[j]? = some y → x < y := fun i j x y h hx hy => by
      obtain ⟨h1, rfl⟩ := List.getElem?_eq_some_iff.1 hx
      obtain ⟨h2, rfl⟩ := List.getElem?_eq_some_iff.1 hy
      exact List.pairwise_iff_getElem.1 hri i j h1 h2 h
    have hL0 : L[0]? = some b := by rw [ht]; rfl
    have HF := Lib.hid (And.intro hup (And.intro hL0 hcn))
    have HN := Lib.hid (And.intro hn0 hn1)
    have HA := Lib.hid hg
    clear hri ht hc0 hlen hl hl1 hup hL0 hcn hn0 hn1 hg hnc
    have hxx := Lib.hid hx
    clear hx cA
    go_wp2
    go_loopg [52] n (fun g v wx => ∃ k : Nat, v = .int .i64 (k : Int) ∧ k + g = n ∧ Gr w4 wx)
    case atStart => exact ⟨0, rfl, by omega, Gr.refl _⟩
    case round =>
      obtain ⟨k, rfl, hkg, hg⟩ := hrel
      have HK := Lib.hid hkg
      clear hkg
      obtain ⟨hup, hL0, hcn⟩ := HF.out
      obtain ⟨hn0, hn1⟩ := HN.out
      by_cases hk : k < n
      · obtain ⟨ad, hk1, hA, hb1, d1⟩ := hN.out.at_ hk
        have d1 := (hg.below.cell (p := ad.add k) (by rw [add_block]; exact hb1)).trans d1
        have hkn : (k : Int) < (n : Int) := by omega
        by_cases hk0 : k = 0
        · subst hk0
          have hd : decide ((0 : Int) < ((0 : Nat) : Int)) = false := by decide
          have hd' : decide ((0 : Int) < 0) = false := by decide
          generalize L[0] = x at *
          subst hA
          clear hup hL0 hcn hn0 hn1 d1
          go_wp2
          go_quiet (fail)
          go_wp2
          go_roundg (n - 1)
          case measure => have := HK.out; omega
          case rel => exact ⟨1, by go_num, by omega, hg.drewN nq⟩
        · obtain ⟨j, hj⟩ : ∃ j, k = j + 1 := ⟨k - 1, by omega⟩
          have d2 := hN.out.at_ (k := j) (by omega)
          obtain ⟨ad2, hk2, hA2, hb2, d2⟩ := d2
          obtain rfl : ad2 = ad := by rw [hA] at hA2; injection hA2 with h; exact h.symm
          subst hA
          clear hA2
          have d2 := (hg.below.cell (p := ad2.add j) (by rw [add_block]; exact hb2)).trans d2
          have hxy := hup j k _ _ (by omega) (List.getElem?_eq_getElem hk2) (List.getElem?_eq_getElem hk1)
          have hd : (0 : Int) < (k : Int) := by omega
          have hdN : 0 < k := by omega
          have hdb : decide (0 < k) = true := decide_eq_true hdN
          have hdc : decide ((0 : Int) < (k : Int)) = true := decide_eq_true hd
          have hw1 : IntKind.i64.wrap ((k : Int) - 1) = (j : Int) := by rw [IntWalk.i64_in _ ⟨by omega, by omega⟩]; omega
          have hkk : (j : Int) < (n : Int) := by omega
          have HJ := Lib.hid hj
          have HKN := Lib.hid hk
          clear hj
          generalize L[j] = x at *
          generalize L[k] = y at *
          have hge : decide (y ≤ x) = false := decide_eq_false (by omega)
          clear hup hL0 hcn hn0 hxy
          go_wp2
          go_quiet (fail)
          go_wp2
          go_roundg (n - (k + 1))
          case measure => have := HK.out; omega
          case rel => exact ⟨k + 1, by go_num, by have := HJ.out; have := HKN.out; omega, hg.drewN nq⟩
      · obtain rfl : k = n := by have := HK.out; omega
        obtain ⟨ad, hk1, rfl, hb1, d1⟩ := hN.out.at_ hn0
        have d1 := (hg.below.cell (p := ad.add 0) (by rw [add_block]; exact hb1)).trans d1
        have hb0 : L[0] = b := by have := List.getElem?_eq_getElem hk1; rw [hL0] at this; injection this with h; exact h.symm
        rw [hb0] at d1
        have d0 : wr.cell? ad = some (.int .i64 b) := d1
        clear d1
        have hc2 := (hxx.out.gr hg).c2
        clear hup hL0 hb0
        have hni : decide ((0 : Int) < (k : Int)) = true := decide_eq_true (by omega)
        have hni' : (0 : Int) < (k : Int) := by omega
        rcases hcn with h | ⟨h, h1, rfl⟩
        · as_aux_lemma =>
          rw [h] at hc2
          go_wp2
          go_ret
          exact ⟨by simp, HA.out.trans hg⟩
        · have hq1 : decide (V.r.cnt = 0) = false := decide_eq_false h
          have hq2 : decide ((k : Int) ≤ V.r.cnt) = true := decide_eq_true h1
          go_wp2
          go_ret
          exact ⟨by simp, HA.out.trans hg⟩
  · as_aux_lemma =>
      clear hN HC
      rw [if_neg hc]
      have he := HE.out
      by_cases hf : Rm.fm V.r = false
      · rw [hf] at cF
        clear HE
        go_wp2_with (first | (refine wpList_load_rule rfl _ rfl rfl hx ?_) | (refine wpList_load_ruleg (by rfl) _ rfl rfl hx ?_))
        refine (cF _ hg).mono ?_
        rintro e w5 ⟨rfl, hg5⟩
        have hg := hg.trans hg5
        go_wp2
        go_ret
        exact ⟨rfl, hg⟩
      · have hfo : Rm.fm V.r = true := by simpa using hf
        have hb : Clk.okB b = false := by
          rw [if_neg hf] at he
          by_cases h : Clk.okB b = false
          · exact h
          · rw [if_neg h] at he; exact absurd he hc
        rw [hfo] at cF
        rw [hb] at cR
        clear HE he
        go_wp2_with (first | (refine wpList_load_rule rfl _ rfl rfl hx ?_) | (refine wpList_load_ruleg (by rfl) _ rfl rfl hx ?_))
        refine (cF _ hg).mono ?_
        rintro e w5 ⟨rfl, hg5⟩
        have hg := hg.trans hg5
        go_wp2_with fail
        refine (cR _).mono ?_
        rintro e w6 ⟨rfl, rfl⟩
        go_wp2
        go_ret
        exact ⟨rfl, hg⟩
end Go.Proofs.YtmbmkldcedkbmaaGreat
