/- An expansion up to an earlier second, or with fewer, is the beginning of a longer one (layer 15): plain mathematics. -/
import Derived.Test.YtmbmkldcedkbmaaGreatZXA
namespace Go.Proofs.YtmbmkldcedkbmaaGreat
namespace Ex
open Cal Rm

theorem filter_le_prefix : ∀ {l : List Int}, Rise l → ∀ e : Int, l.filter (fun x => decide (x ≤ e)) <+: l
  | [], _, _ => List.prefix_refl _
  | x :: l, h, e => by
    have h2 := List.pairwise_cons.1 h
    by_cases c : x ≤ e
    · rw [List.filter_cons_of_pos (by simpa using c)]
      exact List.prefix_cons_inj x |>.2 (filter_le_prefix h2.2 e)
    · rw [List.filter_cons_of_neg (by simpa using c)]
      have : l.filter (fun x => decide (x ≤ e)) = [] := by
        rw [List.filter_eq_nil_iff]
        intro y hy
        have := h2.1 y hy
        simp; omega
      rw [this]
      exact List.nil_prefix
/- the times from the k-th period on lie on its days or behind them -/
theorem rest_from {r : Ru} {B e : Int} (hs : 0 ≤ r.st ∧ r.st ≤ 6) (hi : 1 ≤ r.ivl) {f : Nat} {k x : Int} (hk : (Mc.span r (B / 86400) k).1 ≤ (Mc.span r (B / 86400) k).2) (h : x ∈ rest r B e f k) : 86400 * (Mc.span r (B / 86400) k).1 ≤ x := by
  obtain ⟨_, j, hj⟩ := rest_mem h
  obtain ⟨x1, x2⟩ := tms_day secs_bd hj
  have hj0 : 0 ≤ (j : Int) * r.ivl := Int.mul_nonneg (by omega) (by omega)
  have e1 := (span_num hs x1 x2).1
  have e2 := (span_num hs (Int.le_refl _) hk).1
  by_cases c : (Mc.span r (B / 86400) k).1 ≤ x / 86400
  · omega
  · have p := per_mono (r := r) (B / 86400) (x := x / 86400) (y := (Mc.span r (B / 86400) k).1) (by omega)
    have hz : (j : Int) * r.ivl = 0 := by omega
    rw [hz, Int.add_zero] at x1
    omega
theorem rest_cut {r : Ru} {B e e2 : Int} (hs : 0 ≤ r.st ∧ r.st ≤ 6) (hi : 1 ≤ r.ivl) (he : e ≤ e2) : ∀ (f : Nat) (k : Int), rest r B e f k = (rest r B e2 f k).filter (fun x => decide (x ≤ e))
  | 0, _ => rfl
  | f + 1, k => by
    by_cases h2 : stop r B e2 k = true
    · have h1 : stop r B e k = true := by
        unfold stop at h2 ⊢
        simp only [Bool.or_eq_true, decide_eq_true_eq] at h2 ⊢
        omega
      unfold rest
      rw [if_pos h1, if_pos h2]; rfl
    · by_cases h1 : stop r B e k = true
      · have hk : (Mc.span r (B / 86400) k).1 ≤ (Mc.span r (B / 86400) k).2 ∧ e < 86400 * (Mc.span r (B / 86400) k).1 := by
          unfold stop at h1 h2
          simp only [Bool.or_eq_true, decide_eq_true_eq] at h1 h2
          omega
        have : (rest r B e2 (f + 1) k).filter (fun x => decide (x ≤ e)) = [] := by
          rw [List.filter_eq_nil_iff]
          intro x hx
          have := rest_from hs hi hk.1 hx
          simp; omega
        rw [this]
        unfold rest
        rw [if_pos h1]
      · unfold rest
        rw [if_neg h1, if_neg h2, List.filter_append, ← rest_cut hs hi he f (k + r.ivl), List.filter_filter]
        congr 1
        refine List.filter_congr ?_
        intro x _
        unfold inB
        by_cases c : x ≤ e
        · rw [decide_eq_true c, decide_eq_true (show x ≤ e2 by omega)]; simp
        · rw [decide_eq_false c]; simp
theorem fin_mono {r : Ru} {a b : Int} (h : a ≤ b) : fin r a ≤ fin r b := by
  unfold fin
  split
  · omega
  · exact h
theorem lim_mono {r : Ru} {a b : Nat} (h : a ≤ b) : lim r a ≤ lim r b := by
  unfold lim
  split
  · exact h
  · omega
theorem take_prefix2 {l m : List Int} {a b : Nat} (h : l <+: m) (hab : a ≤ b) : l.take a <+: m.take b := by
  obtain ⟨t, rfl⟩ := h
  rw [List.take_append]
  have : l.take a <+: l.take b := by
    rw [show a = min a b by omega, ← List.take_take]
    exact List.take_prefix _ _
  exact this.trans (List.prefix_append _ _)
theorem means_more {r : Ru} {B a b : Int} {m n : Nat} (hs : 0 ≤ r.st ∧ r.st ≤ 6) (hi : 1 ≤ r.ivl) (hab : a ≤ b) (hmn : m ≤ n) : means r B a m <+: means r B b n := by
  unfold means
  by_cases h : a < B ∨ m = 0
  · rw [if_pos h]; exact List.nil_prefix
  · rw [if_neg h, if_neg (by omega)]
    refine take_prefix2 ?_ (lim_mono hmn)
    rw [List.prefix_cons_inj, rest_cut hs hi (fin_mono hab)]
    exact filter_le_prefix (rest_rise hs hi _ _) _
theorem lim_pos {r : Ru} {m : Nat} (hm : m ≠ 0) (hc : 0 ≤ r.cnt) : 1 ≤ lim r m := by
  unfold lim; split <;> omega
theorem means_head {r : Ru} {B a : Int} {m : Nat} (h : B ≤ a) (hm : m ≠ 0) (hc : 0 ≤ r.cnt) : ∃ t, means r B a m = B :: t := by
  unfold means
  have := lim_pos (r := r) hm hc
  rw [if_neg (by omega), show lim r m = (lim r m - 1) + 1 by omega, List.take_succ_cons]
  exact ⟨_, rfl⟩
theorem means_len (r : Ru) (B a : Int) (m : Nat) : (means r B a m).length ≤ lim r m := by
  unfold means
  split
  · exact Nat.zero_le _
  · rw [List.length_take]; omega
/- the reference's loop, whatever its rounds, once they are enough -/
theorem means_loop {r : Ru} {B last : Int} {most f : Nat} (hb : dayB (B / 86400) = true) (hs : 0 ≤ r.st ∧ r.st ≤ 6) (hi : 1 ≤ r.ivl) (hc : 0 ≤ r.cnt) (hl : ¬ (last < B ∨ most = 0)) (hf : 3652062 ≤ f) :
    loopM r B (fin r last) most f 0 [B] = means r B last most := by
  have h1 := lim_pos (r := r) (m := most) (by omega) hc
  unfold means
  rw [if_neg hl, loopM_eq, show f = 3652062 + (f - 3652062) by omega, rest_more r B _ hb hs hi _ _ 0 (by omega) (by omega), show lim r most = (lim r most - 1) + 1 by omega, List.take_succ_cons]
  rfl
end Ex
end Go.Proofs.YtmbmkldcedkbmaaGreat
