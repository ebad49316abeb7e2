/- What awake, Same and PerDay of the laws of layer 15 return. -/
import Derived.Test.YtmbmkldcedkbmaaGreatZXF
import Derived.Test.YtmbmkldcedkbmaaGreatZEz
import Derived.Test.YtmbmkldcedkbmaaGreatZRfForm
import Derived.Test.YtmbmkldcedkbmaaGreatZRcFew
import Derived.Test.YtmbmkldcedkbmaaGreatZGf
namespace Go.Proofs.YtmbmkldcedkbmaaGreat
open Go.RowKit

namespace Ex
theorem UL_means {r : Rm.Ru} {b last : Int} {m : Nat} : UL r b last m = means r b last m := by
  unfold UL cutC expL means lim
  by_cases c0 : r.cnt = 0
  · simp only [if_pos c0]
    by_cases h : last < b
    · rw [if_pos h, if_pos (.inl h), List.take_nil]
    · rw [if_neg h]
      by_cases h0 : m = 0
      · rw [if_pos (.inr h0), h0, List.take_zero]
      · rw [if_neg (by omega)]
  · simp only [if_neg c0]
    by_cases h : last < b
    · rw [if_pos h, if_pos (.inl h), List.take_nil, List.take_nil]
    · rw [if_neg h]
      by_cases h0 : m = 0
      · rw [if_pos (.inr h0), h0, List.take_zero]
      · rw [if_neg (by omega), List.take_take]
theorem expL_rise {r : Rm.Ru} (hs : 0 ≤ r.st ∧ r.st ≤ 6) (hi : 1 ≤ r.ivl) (b last : Int) : Rise (expL r b last) := by
  unfold expL
  split
  · exact List.Pairwise.nil
  · exact List.pairwise_cons.2 ⟨fun x hx => (rest_mem hx).1.1, rest_rise hs hi _ _⟩
theorem aw_sec : secs Mc.Vaw.r (86400 % 86400) = [0] := (secs_prod (r := Mc.Vaw.r) (b := 86400 % 86400) rfl rfl rfl (by decide) (by decide)).trans (by kernel_rfl)
theorem aw_t0 : (tms Mc.Vaw.r (86400 / 86400) 0 [0]).filter (inB 86400 432000) = [] := by kernel_rfl
theorem aw_t1 : (tms Mc.Vaw.r (86400 / 86400) (0 + Mc.Vaw.r.ivl) [0]).filter (inB 86400 432000) = [172800] := by kernel_rfl
theorem aw_t2 : (tms Mc.Vaw.r (86400 / 86400) (0 + Mc.Vaw.r.ivl + Mc.Vaw.r.ivl) [0]).filter (inB 86400 432000) = [259200] := by kernel_rfl
theorem aw_t3 : (tms Mc.Vaw.r (86400 / 86400) (0 + Mc.Vaw.r.ivl + Mc.Vaw.r.ivl + Mc.Vaw.r.ivl) [0]).filter (inB 86400 432000) = [345600] := by kernel_rfl
theorem aw_s0 : stop Mc.Vaw.r 86400 432000 0 = false := by kernel_rfl
theorem aw_s1 : stop Mc.Vaw.r 86400 432000 (0 + Mc.Vaw.r.ivl) = false := by kernel_rfl
theorem aw_s2 : stop Mc.Vaw.r 86400 432000 (0 + Mc.Vaw.r.ivl + Mc.Vaw.r.ivl) = false := by kernel_rfl
theorem aw_s3 : stop Mc.Vaw.r 86400 432000 (0 + Mc.Vaw.r.ivl + Mc.Vaw.r.ivl + Mc.Vaw.r.ivl) = false := by kernel_rfl
theorem aw_exp : ∃ t, expL Mc.Vaw.r 86400 432000 = 86400 :: 172800 :: 259200 :: 345600 :: t := by
  have hb : Cal.dayB (86400 / 86400) = true := by decide
  have hs : 0 ≤ Mc.Vaw.r.st ∧ Mc.Vaw.r.st ≤ 6 := by decide
  have hi : (1 : Int) ≤ Mc.Vaw.r.ivl := by decide
  have u := fun k (h0 : 0 ≤ k) => restU (r := Mc.Vaw.r) (B := 86400) (e := 432000) (k := k) hb hs hi h0
  refine ⟨rest Mc.Vaw.r 86400 432000 3652062 (0 + Mc.Vaw.r.ivl + Mc.Vaw.r.ivl + Mc.Vaw.r.ivl + Mc.Vaw.r.ivl), ?_⟩
  unfold expL
  rw [if_neg (by decide), show fin Mc.Vaw.r 432000 = 432000 from rfl, u 0 (by decide), aw_s0, aw_sec, aw_t0, u _ (by decide), aw_s1, aw_sec, aw_t1, u _ (by decide), aw_s2, aw_sec, aw_t2, u _ (by decide), aw_s3, aw_sec, aw_t3]
  simp only [Bool.false_eq_true, if_false, List.nil_append, List.cons_append]
theorem aw_UL : UL Mc.Vaw.r 86400 432000 3 = [86400, 172800, 259200] ∧ UM Mc.Vaw.r 86400 432000 3 = true := by
  obtain ⟨t, ht⟩ := aw_exp
  unfold UL UM cutC
  rw [ht, if_pos (show Mc.Vaw.r.cnt = 0 from rfl)]
  exact ⟨rfl, by simp⟩
end Ex
theorem vaw_n6 (i : Nat) (hi : i < 8) : (Mc.Vaw.sl i).n ≤ 1000000 := by
  rcases (show i = 0 ∨ i = 1 ∨ i = 2 ∨ i = 3 ∨ i = 4 ∨ i = 5 ∨ i = 6 ∨ i = 7 by omega) with rfl | rfl | rfl | rfl | rfl | rfl | rfl | rfl <;> decide
set_option maxRecDepth 100000 in
set_option maxHeartbeats 4000000 in
theorem awake15_any (w : World) : Calls Tryz.prog 7 #[] w fun e w' => e = .returned (.bool true) ∧ Gr w w' := by
  have c := until_any Mc.Vaw 86400 432000 3 w (vaw_mem w) (by decide) vaw_n6 (by decide)
  have he : untE Mc.Vaw.r 86400 3 = 0 := by kernel_rfl
  rw [he, if_pos rfl, if_pos rfl, show (3 : Int).toNat = 3 from rfl, Ex.aw_UL.1, Ex.aw_UL.2] at c
  clear he
  go_enter Tryz.func7, Tryz.ntmps7
  go_wp2_with fail
  refine c.mono ?_
  rintro e w1 ⟨A, n, cc, rfl, hg, hN, _⟩
  obtain rfl : n = 3 := hN.out.1.symm
  obtain ⟨ad, hk, rfl, _, d0⟩ := hN.out.at_ (k := 2) (by decide)
  have d1 : w1.cell? ⟨ad.block, ad.off + 2, none⟩ = some (.int .i64 259200) := d0
  clear d0 hN c
  go_wp2
  go_ret
  exact ⟨rfl, hg⟩
/- at how many seconds of a day a rule may mean something -/
def PD (V : Rm.Rv) : Int := max 1 (V.hour.n : Int) * max 1 (V.min.n : Int) * max 1 (V.sec.n : Int)
set_option maxRecDepth 100000 in
set_option maxHeartbeats 4000000 in
theorem perday_any (V : Rm.Rv) (w : World) (hn : ∀ i, i < 8 → (V.sl i).n ≤ 500) : Calls Tryz.prog 12 #[.agg V.val] w fun e w' => e = .returned (.int .i64 (PD V)) ∧ Gr w w' := by
  have hbx := RBx.now w V 27
  have hg : Gr w (w.alloc (.cells V.val 27)) := (Gr.refl w).allocO _
  have c10 := hbx.c10
  have c9 := hbx.c9
  have c8 := hbx.c8
  have h2 := hn 2 (by omega)
  have h1 := hn 1 (by omega)
  have h0 := hn 0 (by omega)
  change V.hour.n ≤ 500 at h2
  change V.min.n ≤ 500 at h1
  change V.sec.n ≤ 500 at h0
  have a1 : 1 ≤ max 1 (V.hour.n : Int) ∧ max 1 (V.hour.n : Int) ≤ 500 := by omega
  have b1 : 1 ≤ max 1 (V.min.n : Int) ∧ max 1 (V.min.n : Int) ≤ 500 := by omega
  have d1 : 1 ≤ max 1 (V.sec.n : Int) ∧ max 1 (V.sec.n : Int) ≤ 500 := by omega
  have hP : PD V = max 1 (V.hour.n : Int) * max 1 (V.min.n : Int) * max 1 (V.sec.n : Int) := rfl
  have hab : 0 ≤ max 1 (V.hour.n : Int) * max 1 (V.min.n : Int) ∧ max 1 (V.hour.n : Int) * max 1 (V.min.n : Int) ≤ 500 * 500 := ⟨Int.mul_nonneg (by omega) (by omega), Int.mul_le_mul a1.2 b1.2 (by omega) (by omega)⟩
  have habc : 0 ≤ max 1 (V.hour.n : Int) * max 1 (V.min.n : Int) * max 1 (V.sec.n : Int) ∧ max 1 (V.hour.n : Int) * max 1 (V.min.n : Int) * max 1 (V.sec.n : Int) ≤ 500 * 500 * 500 := ⟨Int.mul_nonneg hab.1 (by omega), Int.mul_le_mul hab.2 d1.2 (by omega) (by omega)⟩
  have w1 : IntKind.i64.wrap (max 1 (V.hour.n : Int) * max 1 (V.min.n : Int)) = max 1 (V.hour.n : Int) * max 1 (V.min.n : Int) := IntWalk.i64_in _ ⟨by omega, by omega⟩
  have w2 : IntKind.i64.wrap (max 1 (V.hour.n : Int) * max 1 (V.min.n : Int) * max 1 (V.sec.n : Int)) = max 1 (V.hour.n : Int) * max 1 (V.min.n : Int) * max 1 (V.sec.n : Int) := IntWalk.i64_in _ ⟨by omega, by omega⟩
  rw [hP]
  clear hbx hn h0 h1 h2 hP hab habc a1 b1 d1
  go_enter Tryz.func12, Tryz.ntmps12
  go_wp2
  go_ret
  exact ⟨by simp, hg⟩
set_option maxRecDepth 100000 in
set_option maxHeartbeats 4000000 in
theorem same_yes (A B : Option Addr) (n c m d : Nat) (xs : List Int) (w : World) (hA : Nums w w.heap.size A n xs) (hB : Nums w w.heap.size B m xs) (hn : n ≤ 1000000000000) : Calls Tryz.prog 13 #[.slice A n c, .slice B m d] w fun e w' => e = .returned (.bool true) ∧ Gr w w' := by
  have hl := hA.1
  have hm : m = n := hB.1.symm.trans hA.1
  subst hm
  go_enter Tryz.func13, Tryz.ntmps13
  go_wp2
  go_loopg [13] m (fun g v wx => ∃ k : Nat, v = .int .i64 (k : Int) ∧ k + g = m ∧ Gr w wx)
  case atStart => exact ⟨0, rfl, by omega, Gr.refl _⟩
  case round =>
    obtain ⟨k, rfl, hkg, hg⟩ := hrel
    have HK := Lib.hid hkg
    clear hkg
    by_cases hk : k < m
    · obtain ⟨a1, hk1, rfl, hb1, d1⟩ := hA.at_ hk
      obtain ⟨a2, hk2, rfl, hb2, d2⟩ := hB.at_ hk
      have d1 := (hg.below.cell (p := a1.add k) (by rw [add_block]; exact hb1)).trans d1
      have d2 := (hg.below.cell (p := a2.add k) (by rw [add_block]; exact hb2)).trans d2
      have hkn : (k : Int) < (m : Int) := by omega
      generalize xs[k] = x at *
      go_wp2
      go_quiet (fail)
      go_wp2
      go_roundg (m - (k + 1))
      case measure => have := HK.out; omega
      case rel => exact ⟨k + 1, by go_num, by omega, hg.drewN nq⟩
    · obtain rfl : k = m := by have := HK.out; omega
      go_wp2
      go_ret
      exact ⟨rfl, hg⟩
end Go.Proofs.YtmbmkldcedkbmaaGreat
