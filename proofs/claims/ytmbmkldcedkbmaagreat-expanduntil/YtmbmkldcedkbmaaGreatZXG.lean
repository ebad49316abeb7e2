/- The texts Xl, Ya, Yb, Yc, one behind the other. -/
import Derived.Test.YtmbmkldcedkbmaaGreatZXF
import Derived.Test.YtmbmkldcedkbmaaGreatZEz
import Derived.Test.YtmbmkldcedkbmaaGreatZRfForm
import Derived.Test.YtmbmkldcedkbmaaGreatZRcFew
import Derived.Test.YtmbmkldcedkbmaaGreatZGf
import Derived.Test.YtmbmkldcedkbmaaGreatZXH
import Derived.BigQuiet
namespace Go.Proofs.YtmbmkldcedkbmaaGreat
open Go.RowKit

namespace Ex
theorem UL_means {r : Rm.Ru} {b last : Int} {m : Nat} : UL r b last m = means r b last m := by
  unfold UL cutC expL means lim
  by_cases c0 : r.cnt = 0
  · simp only [if_pos c0]
    by_cases h : last < b
    · rw [if_pos h, if_pos (.inl h), List.take_nil]
    · rw [if_neg h]
      by_cases h0 : m = 0
      · rw [if_pos (.inr h0), h0, List.take_zero]
      · rw [if_neg (by omega)]
  · simp only [if_neg c0]
    by_cases h : last < b
    · rw [if_pos h, if_pos (.inl h), List.take_nil, List.take_nil]
    · rw [if_neg h]
      by_cases h0 : m = 0
      · rw [if_pos (.inr h0), h0, List.take_zero]
      · rw [if_neg (by omega), List.take_take]
theorem expL_rise {r : Rm.Ru} (hs : 0 ≤ r.st ∧ r.st ≤ 6) (hi : 1 ≤ r.ivl) (b last : Int) : Rise (expL r b last) := by
  unfold expL
  split
  · exact List.Pairwise.nil
  · exact List.pairwise_cons.2 ⟨fun x hx => (rest_mem hx).1.1, rest_rise hs hi _ _⟩
theorem aw_sec : secs Mc.Vaw.r (86400 % 86400) = [0] := (secs_prod (r := Mc.Vaw.r) (b := 86400 % 86400) rfl rfl rfl (by decide) (by decide)).trans (by kernel_rfl)
theorem aw_t0 : (tms Mc.Vaw.r (86400 / 86400) 0 [0]).filter (inB 86400 432000) = [] := by kernel_rfl
theorem aw_t1 : (tms Mc.Vaw.r (86400 / 86400) (0 + Mc.Vaw.r.ivl) [0]).filter (inB 86400 432000) = [172800] := by kernel_rfl
theorem aw_t2 : (tms Mc.Vaw.r (86400 / 86400) (0 + Mc.Vaw.r.ivl + Mc.Vaw.r.ivl) [0]).filter (inB 86400 432000) = [259200] := by kernel_rfl
theorem aw_t3 : (tms Mc.Vaw.r (86400 / 86400) (0 + Mc.Vaw.r.ivl + Mc.Vaw.r.ivl + Mc.Vaw.r.ivl) [0]).filter (inB 86400 432000) = [345600] := by kernel_rfl
theorem aw_s0 : stop Mc.Vaw.r 86400 432000 0 = false := by kernel_rfl
theorem aw_s1 : stop Mc.Vaw.r 86400 432000 (0 + Mc.Vaw.r.ivl) = false := by kernel_rfl
theorem aw_s2 : stop Mc.Vaw.r 86400 432000 (0 + Mc.Vaw.r.ivl + Mc.Vaw.r.ivl) = false := by kernel_rfl
theorem aw_s3 : stop Mc.Vaw.r 86400 432000 (0 + Mc.Vaw.r.ivl + Mc.Vaw.r.ivl + Mc.Vaw.r.ivl) = false := by kernel_rfl
theorem aw_exp : ∃ t, expL Mc.Vaw.r 86400 432000 = 86400 :: 172800 :: 259200 :: 345600 :: t := by
  have hb : Cal.dayB (86400 / 86400) = true := by decide
  have hs : 0 ≤ Mc.Vaw.r.st ∧ Mc.Vaw.r.st ≤ 6 := by decide
  have hi : (1 : Int) ≤ Mc.Vaw.r.ivl := by decide
  have u := fun k (h0 : 0 ≤ k) => restU (r := Mc.Vaw.r) (B := 86400) (e := 432000) (k := k) hb hs hi h0
  refine ⟨rest Mc.Vaw.r 86400 432000 3652062 (0 + Mc.Vaw.r.ivl + Mc.Vaw.r.ivl + Mc.Vaw.r.ivl + Mc.Vaw.r.ivl), ?_⟩
  unfold expL
  rw [if_neg (by decide), show fin Mc.Vaw.r 432000 = 432000 from rfl, u 0 (by decide), aw_s0, aw_sec, aw_t0, u _ (by decide), aw_s1, aw_sec, aw_t1, u _ (by decide), aw_s2, aw_sec, aw_t2, u _ (by decide), aw_s3, aw_sec, aw_t3]
  simp only [Bool.false_eq_true, if_false, List.nil_append, List.cons_append]
theorem aw_UL : UL Mc.Vaw.r 86400 432000 3 = [86400, 172800, 259200] ∧ UM Mc.Vaw.r 86400 432000 3 = true := by
  obtain ⟨t, ht⟩ := aw_exp
  unfold UL UM cutC
  rw [ht, if_pos (show Mc.Vaw.r.cnt = 0 from rfl)]
  exact ⟨rfl, by simp⟩
end Ex
theorem vaw_n6 (i : Nat) (hi : i < 8) : (Mc.Vaw.sl i).n ≤ 1000000 := by
  rcases (show i = 0 ∨ i = 1 ∨ i = 2 ∨ i = 3 ∨ i = 4 ∨ i = 5 ∨ i = 6 ∨ i = 7 by omega) with rfl | rfl | rfl | rfl | rfl | rfl | rfl | rfl <;> decide
set_option maxRecDepth 100000 in
set_option maxHeartbeats 4000000 in
theorem awake15_any (w : World) : Calls Tryz.prog 7 #[] w fun e w' => e = .returned (.bool true) ∧ Gr w w' := by
  have c := until_any Mc.Vaw 86400 432000 3 w (vaw_mem w) (by decide) vaw_n6 (by decide)
  have he : untE Mc.Vaw.r 86400 3 = 0 := by kernel_rfl
  rw [he, if_pos rfl, if_pos rfl, show (3 : Int).toNat = 3 from rfl, Ex.aw_UL.1, Ex.aw_UL.2] at c
  clear he
  go_enter Tryz.func7, Tryz.ntmps7
  go_wp2_with fail
  refine c.mono ?_
  rintro e w1 ⟨A, n, cc, rfl, hg, hN, _⟩
  obtain rfl : n = 3 := hN.out.1.symm
  obtain ⟨ad, hk, rfl, _, d0⟩ := hN.out.at_ (k := 2) (by decide)
  have d1 : w1.cell? ⟨ad.block, ad.off + 2, none⟩ = some (.int .i64 259200) := d0
  clear d0 hN c
  go_wp2
  go_ret
  exact ⟨rfl, hg⟩
/- at how many seconds of a day a rule may mean something -/
def PD (V : Rm.Rv) : Int := max 1 (V.hour.n : Int) * max 1 (V.min.n : Int) * max 1 (V.sec.n : Int)
set_option maxRecDepth 100000 in
set_option maxHeartbeats 4000000 in
theorem perday_any (V : Rm.Rv) (w : World) (hn : ∀ i, i < 8 → (V.sl i).n ≤ 500) : Calls Tryz.prog 12 #[.agg V.val] w fun e w' => e = .returned (.int .i64 (PD V)) ∧ Gr w w' := by
  have hbx := RBx.now w V 27
  have hg : Gr w (w.alloc (.cells V.val 27)) := (Gr.refl w).allocO _
  have c10 := hbx.c10
  have c9 := hbx.c9
  have c8 := hbx.c8
  have h2 := hn 2 (by omega)
  have h1 := hn 1 (by omega)
  have h0 := hn 0 (by omega)
  change V.hour.n ≤ 500 at h2
  change V.min.n ≤ 500 at h1
  change V.sec.n ≤ 500 at h0
  have a1 : 1 ≤ max 1 (V.hour.n : Int) ∧ max 1 (V.hour.n : Int) ≤ 500 := by omega
  have b1 : 1 ≤ max 1 (V.min.n : Int) ∧ max 1 (V.min.n : Int) ≤ 500 := by omega
  have d1 : 1 ≤ max 1 (V.sec.n : Int) ∧ max 1 (V.sec.n : Int) ≤ 500 := by omega
  have hP : PD V = max 1 (V.hour.n : Int) * max 1 (V.min.n : Int) * max 1 (V.sec.n : Int) := rfl
  have hab : 0 ≤ max 1 (V.hour.n : Int) * max 1 (V.min.n : Int) ∧ max 1 (V.hour.n : Int) * max 1 (V.min.n : Int) ≤ 500 * 500 := ⟨Int.mul_nonneg (by omega) (by omega), Int.mul_le_mul a1.2 b1.2 (by omega) (by omega)⟩
  have habc : 0 ≤ max 1 (V.hour.n : Int) * max 1 (V.min.n : Int) * max 1 (V.sec.n : Int) ∧ max 1 (V.hour.n : Int) * max 1 (V.min.n : Int) * max 1 (V.sec.n : Int) ≤ 500 * 500 * 500 := ⟨Int.mul_nonneg hab.1 (by omega), Int.mul_le_mul hab.2 d1.2 (by omega) (by omega)⟩
  have w1 : IntKind.i64.wrap (max 1 (V.hour.n : Int) * max 1 (V.min.n : Int)) = max 1 (V.hour.n : Int) * max 1 (V.min.n : Int) := IntWalk.i64_in _ ⟨by omega, by omega⟩
  have w2 : IntKind.i64.wrap (max 1 (V.hour.n : Int) * max 1 (V.min.n : Int) * max 1 (V.sec.n : Int)) = max 1 (V.hour.n : Int) * max 1 (V.min.n : Int) * max 1 (V.sec.n : Int) := IntWalk.i64_in _ ⟨by omega, by omega⟩
  rw [hP]
  clear hbx hn h0 h1 h2 hP hab habc a1 b1 d1
  go_enter Tryz.func12, Tryz.ntmps12
  go_wp2
  go_ret
  exact ⟨by simp, hg⟩
set_option maxRecDepth 100000 in
set_option maxHeartbeats 4000000 in
theorem same_yes (A B : Option Addr) (n c m d : Nat) (xs : List Int) (w : World) (hA : Nums w w.heap.size A n xs) (hB : Nums w w.heap.size B m xs) (hn : n ≤ 1000000000000) : Calls Tryz.prog 13 #[.slice A n c, .slice B m d] w fun e w' => e = .returned (.bool true) ∧ Gr w w' := by
  have hl := hA.1
  have hm : m = n := hB.1.symm.trans hA.1
  subst hm
  go_enter Tryz.func13, Tryz.ntmps13
  go_wp2
  go_loopg [13] m (fun g v wx => ∃ k : Nat, v = .int .i64 (k : Int) ∧ k + g = m ∧ Gr w wx)
  case atStart => exact ⟨0, rfl, by omega, Gr.refl _⟩
  case round =>
    obtain ⟨k, rfl, hkg, hg⟩ := hrel
    have HK := Lib.hid hkg
    clear hkg
    by_cases hk : k < m
    · obtain ⟨a1, hk1, rfl, hb1, d1⟩ := hA.at_ hk
      obtain ⟨a2, hk2, rfl, hb2, d2⟩ := hB.at_ hk
      have d1 := (hg.below.cell (p := a1.add k) (by rw [add_block]; exact hb1)).trans d1
      have d2 := (hg.below.cell (p := a2.add k) (by rw [add_block]; exact hb2)).trans d2
      have hkn : (k : Int) < (m : Int) := by omega
      generalize xs[k] = x at *
      go_wp2
      go_quiet (fail)
      go_wp2
      go_roundg (m - (k + 1))
      case measure => have := HK.out; omega
      case rel => exact ⟨k + 1, by go_num, by omega, hg.drewN nq⟩
    · obtain rfl : k = m := by have := HK.out; omega
      go_wp2
      go_ret
      exact ⟨rfl, hg⟩
end Go.Proofs.YtmbmkldcedkbmaaGreat
namespace Go.Proofs.YtmbmkldcedkbmaaGreat
open Go.RowKit

theorem int_beq (a b : Int) : (a == b) = decide (a = b) := by
  by_cases h : a = b <;> simp [h]

set_option maxRecDepth 100000 in
set_option maxHeartbeats 4000000 in
theorem ron_any (V : Rm.Rv) (b s : Int) (w : World) (hM : RuM w w.heap.size V) (hn : ∀ i, i < 8 → (V.sl i).n ≤ 140737488355328) (hb : 0 ≤ b) (s0 : 0 ≤ s) (s1 : s < 86400) :
    Calls Tryz.prog 31 #[.agg V.val, .int .i64 b, .int .i64 s] w fun e w' => e = .returned (.bool (Ex.onB V.r (b % 86400) s)) ∧ Gr w w' := by
  have hbx := RBx.now w V 27
  have hg : Gr w (w.alloc (.cells V.val 27)) := (Gr.refl w).allocO _
  have c2 := fun w' (g : Gr w w') => rhas_any V.hour.A V.hour.n V.hour.c V.r.hour (s / 3600) w' ((hM.l 2 (by decide)).gr g) (hn 2 (by decide))
  have c1 := fun w' (g : Gr w w') => rhas_any V.min.A V.min.n V.min.c V.r.min (s / 60 % 60) w' ((hM.l 1 (by decide)).gr g) (hn 1 (by decide))
  have c0 := fun w' (g : Gr w w') => rhas_any V.sec.A V.sec.n V.sec.c V.r.sec (s % 60) w' ((hM.l 0 (by decide)).gr g) (hn 0 (by decide))
  have l2 : V.r.hour.length = V.hour.n := (hM.l 2 (by decide)).1
  have l1 : V.r.min.length = V.min.n := (hM.l 1 (by decide)).1
  have l0 : V.r.sec.length = V.sec.n := (hM.l 0 (by decide)).1
  have HI : Hid (Ex.onB V.r (b % 86400) s = ((if V.hour.n = 0 then (s / 3600 == b % 86400 / 3600) else Mc.hasB V.r.hour (s / 3600)) && (if V.min.n = 0 then s / 60 % 60 == b % 86400 / 60 % 60 else Mc.hasB V.r.min (s / 60 % 60)) && (if V.sec.n = 0 then s % 60 == b % 86400 % 60 else Mc.hasB V.r.sec (s % 60)))) := Lib.hid (by
    unfold Ex.onB
    simp only [← List.length_eq_zero_iff, l0, l1, l2])
  generalize Ex.onB V.r (b % 86400) s = q at *
  generalize Mc.hasB V.r.hour (s / 3600) = q2 at *
  generalize Mc.hasB V.r.min (s / 60 % 60) = q1 at *
  generalize Mc.hasB V.r.sec (s % 60) = q0 at *
  have e8 := hbx.c8
  have e7 := hbx.c9
  have e6 := hbx.c10
  have n2 : V.hour.n ≤ 140737488355328 := hn 2 (by decide)
  have n1 : V.min.n ≤ 140737488355328 := hn 1 (by decide)
  have n0 : V.sec.n ≤ 140737488355328 := hn 0 (by decide)
  have tb : b.tmod 86400 = b % 86400 := Int.tmod_eq_emod_of_nonneg hb
  have ts1 : s.tdiv 3600 = s / 3600 := Int.tdiv_eq_ediv_of_nonneg s0
  have ts2 : s.tdiv 60 = s / 60 := Int.tdiv_eq_ediv_of_nonneg s0
  have ts3 : (s / 60).tmod 60 = s / 60 % 60 := Int.tmod_eq_emod_of_nonneg (by omega)
  have ts4 : s.tmod 60 = s % 60 := Int.tmod_eq_emod_of_nonneg s0
  have tb1 : (b % 86400).tdiv 3600 = b % 86400 / 3600 := Int.tdiv_eq_ediv_of_nonneg (by omega)
  have tb2 : (b % 86400).tdiv 60 = b % 86400 / 60 := Int.tdiv_eq_ediv_of_nonneg (by omega)
  have tb3 : (b % 86400 / 60).tmod 60 = b % 86400 / 60 % 60 := Int.tmod_eq_emod_of_nonneg (by omega)
  have tb4 : (b % 86400).tmod 60 = b % 86400 % 60 := Int.tmod_eq_emod_of_nonneg (by omega)
  have HX := Lib.hid hbx
  clear hbx hM hn l0 l1 l2
  have x1 : 0 ≤ s / 3600 := by omega
  have x2 : s / 3600 ≤ 100000 := by omega
  have x3 : 0 ≤ s / 60 := by omega
  have x4 : s / 60 ≤ 100000 := by omega
  have x5 : 0 ≤ s / 60 % 60 := by omega
  have x6 : s / 60 % 60 ≤ 100000 := by omega
  have x7 : 0 ≤ s % 60 := by omega
  have x8 : s % 60 ≤ 100000 := by omega
  have hq2 := Lib.hid c2
  have hq1 := Lib.hid c1
  have hq0 := Lib.hid c0
  clear c2 c1 c0
  generalize s / 3600 = sh at *
  generalize s / 60 % 60 = sm at *
  generalize s / 60 = sq at *
  generalize s % 60 = ss at *
  go_enter Tryz.func31, Tryz.ntmps31
  go_upto_region 1 with fail
  generalize w.alloc (.cells V.val 27) = W at *
  go_upto_region 2 with fail
  go_quiet (first | (go_at_call 53; with_reducible exact qsame (hq2.out _ (hg.drewN _))) | (go_at_call 53; with_reducible exact qsame (hq1.out _ (hg.drewN _))) | (go_at_call 53; with_reducible exact qsame (hq0.out _ (hg.drewN _))))
  have hbx := HX.out.gr ((Gr.refl W).drewN nq)
  have hg := hg.drewN nq
  have e8 := hbx.c8
  have e7 := hbx.c9
  have e6 := hbx.c10
  clear hbx HX hq2 hq1 hq0
  generalize W.drewN nq = W2 at *
  by_cases h2 : V.hour.n = 0 <;> by_cases h1 : V.min.n = 0 <;> by_cases h0 : V.sec.n = 0
  all_goals
    go_wp2
    all_goals
      go_ret
      refine ⟨?_, hg⟩
      rw [HI.out]
      simp_all [int_beq]
theorem own_numsK {w : World} {B : Nat} {e : TypeId} {A : Option Addr} {n c : Nat} {xs : List Int} (h : OwnV w B e A n c (ivs xs)) : Nums w w.heap.size A n xs := by
  obtain ⟨h1, h2⟩ := own_numK h
  exact ⟨h1, fun h0 => by obtain ⟨ad, e, _, hb, hc⟩ := h2 h0; exact ⟨ad, e, hb, hc⟩⟩
theorem secs_snoc {r : Rm.Ru} {b : Int} {k : Nat} : (Ex.upto (k + 1)).filter (Ex.onB r b) = (Ex.upto k).filter (Ex.onB r b) ++ (if Ex.onB r b (k : Int) = true then [(k : Int)] else []) := by
  rw [Ex.upto_snoc, List.filter_append]
  congr 1
  by_cases h : Ex.onB r b (k : Int) = true
  · rw [if_pos h, List.filter_cons_of_pos h, List.filter_nil]
  · rw [if_neg h, List.filter_cons_of_neg h, List.filter_nil]
set_option maxRecDepth 100000 in
set_option maxHeartbeats 4000000 in
theorem rsecs_anyK (V : Rm.Rv) (b : Int) (w : World) (hM : RuM w w.heap.size V) (hn : ∀ i, i < 8 → (V.sl i).n ≤ 140737488355328) (hb : 0 ≤ b) :
    Calls Tryz.prog 15 #[.agg V.val, .int .i64 b] w fun e w' => ∃ A n c, e = .returned (.slice A n c) ∧ Gr w w' ∧ Hid (NumK w' (fun k => w.heap.size ≤ k) A n (Ex.secs V.r (b % 86400))) := by
  have hbx := RBx.now w V 27
  have hg : Gr w (w.alloc (.cells V.val 27)) := (Gr.refl w).allocO _
  have hO := Lib.hid (fun w' (g : Gr w w') (s : Int) (s0 : 0 ≤ s) (s1 : s < 86400) => ron_any V b s w' (hM.gr g) hn hb s0 s1)
  have HS0 := Lib.hid (fun k : Nat => secs_snoc (r := V.r) (b := b % 86400) (k := k))
  have HE : Hid (Ex.secs V.r (b % 86400) = (Ex.upto 86400).filter (Ex.onB V.r (b % 86400))) := Lib.hid rfl
  generalize Ex.secs V.r (b % 86400) = RS at *
  generalize Ex.onB V.r (b % 86400) = on at *
  clear hM hn hb
  go_enter Tryz.func15, Tryz.ntmps15
  go_upto_region 1 with fail
  have HX := Lib.hid hbx
  clear hbx
  generalize w.alloc (.cells V.val 27) = W at *
  go_wp2
  go_loopg [5, 7] 86400 (fun g v v2 wx => ∃ (k m cp : Nat) (R : Option Addr), v = .slice R m cp ∧ v2 = .int .i64 (k : Int) ∧ k + g = 86400 ∧ Hid (OwnV wx W.heap.size 2 R m cp (ivs ((Ex.upto k).filter on))) ∧ Gr W wx)
  case atStart => exact ⟨0, 0, 0, none, rfl, rfl, by omega, Lib.hid (OwnV.nil _ _ _), Gr.refl _⟩
  case round =>
    obtain ⟨k, m, cp, R, rfl, rfl, hkg, HO, hgr⟩ := hrel
    have HK := Lib.hid hkg
    clear hkg
    have hmk : m ≤ k := by
      have h1 := ivs_len HO.out
      have h2 := List.length_filter_le on (Ex.upto k)
      rw [Ex.upto_len] at h2
      omega
    by_cases hk : k < 86400
    · have hkn : (k : Int) < 86400 := by omega
      have hk0 : (0 : Int) ≤ (k : Int) := by omega
      have hx := HX.out.gr hgr
      have c := hO.out wr (hg.trans hgr) k hk0 hkn
      have HS := Lib.hid (HS0.out k)
      have ho := HO.out
      clear HO HS0
      have hO := hO
      cases hq : on (k : Int)
      · rw [hq] at c
        have HS := Lib.hid (by have := HS.out; rwa [hq, if_neg (by decide), List.append_nil] at this)
        clear hq
        go_wp2_with (first | (refine wpList_load_rule rfl _ rfl rfl hx ?_) | (go_at_call 31; refine c.mono ?_; rintro e w2 ⟨rfl, hg2⟩))
        go_roundg (86400 - (k + 1))
        case measure => have := HK.out; omega
        case rel => exact ⟨k + 1, m, cp, R, by go_num, rfl, by omega, Lib.hid (by rw [HS.out]; exact ho.gr hg2), hgr.trans hg2⟩
      · rw [hq] at c
        have HS := Lib.hid (by have := HS.out; rwa [hq, if_pos rfl] at this)
        clear hq
        go_wp2_with (first | (refine wpList_load_rule rfl _ rfl rfl hx ?_) | (go_at_call 31; refine c.mono ?_; rintro e w2 ⟨rfl, hg2⟩) | (at_builtin; refine apP w2 rfl (.tmp 14) (.tmp 16) 30 2 (.int .i64 0) Tryz.underlying30 info_i64 rfl rfl W.heap.size R m cp _ rfl (ho.gr hg2) (.int .i64 (k : Int)) rfl rfl (by omega) (hgr.trans hg2).lt ?_; intro g5 cap5 w5 hA5))
        go_roundg (86400 - (k + 1))
        case measure => have := HK.out; omega
        case rel => exact ⟨k + 1, m + 1, cap5, _, by go_num, rfl, by omega, Lib.hid (by rw [HS.out, ivs_app]; exact hA5.own), hA5.gr (ho.gr hg2) (Nat.le_refl _) (hgr.trans hg2)⟩
    · obtain rfl : k = 86400 := by have := HK.out; omega
      go_wp2
      go_ret
      exact ⟨R, m, cp, rfl, hg.trans hgr, Lib.hid (by rw [HE.out]; exact (own_numK HO.out).weak (fun k _ h => Nat.le_trans hg.lt h))⟩
theorem rsecs_any (V : Rm.Rv) (b : Int) (w : World) (hM : RuM w w.heap.size V) (hn : ∀ i, i < 8 → (V.sl i).n ≤ 140737488355328) (hb : 0 ≤ b) :
    Calls Tryz.prog 15 #[.agg V.val, .int .i64 b] w fun e w' => ∃ A n c, e = .returned (.slice A n c) ∧ Gr w w' ∧ Hid (Nums w' w'.heap.size A n (Ex.secs V.r (b % 86400))) := by
  refine (rsecs_anyK V b w hM hn hb).mono ?_
  rintro e w' ⟨A, n, c, rfl, hg, hN⟩
  exact ⟨A, n, c, rfl, hg, Lib.hid hN.out.nums⟩
theorem NumK.nil (w : World) (K : Nat → Prop) (A : Option Addr) : NumK w K A 0 [] := ⟨rfl, fun h => absurd h (by omega)⟩
theorem NumK.off {w w2 : World} {B : Nat} {e : TypeId} {R A : Option Addr} {m c n : Nat} {ys : List Value} {xs : List Int} (h : NumK w2 (fun k => w.heap.size ≤ k) A n xs) (ho : OwnV w B e R m c ys) : Off w2 R A n xs :=
  h.weak (fun k _ hk he => by
    rcases own_at ho with rfl | ⟨g, rfl, _, hg⟩
    · simp [ownB] at he
    · simp [ownB] at he; omega)
end Go.Proofs.YtmbmkldcedkbmaaGreat
namespace Go.Proofs.YtmbmkldcedkbmaaGreat
open Go.RowKit

set_option maxRecDepth 100000 in
set_option maxHeartbeats 4000000 in
theorem rcnt15_any (A : Option Addr) (n c : Nat) (xs : List Int) (p e : Int) (w : World) (hP : Nums w w.heap.size A n xs) (hn : n ≤ 140737488355328) (p1 : 0 ≤ p) (p2 : p ≤ 1000000000000) (e1 : 0 ≤ e) (e2 : e ≤ 1000000000000) :
    Calls Tryz.prog 30 #[.slice A n c, .int .i64 p, .int .i64 e] w fun r w' => r = .returned (.bool (Mc.cntB xs p e)) ∧ w = w' := by
  have cH := fun x => rhas_any A n c xs x w hP hn
  have c1 := cH p
  have c2 := cH (p - e - 1)
  have HI : Hid (Mc.cntB xs p e = (Mc.hasB xs p || Mc.hasB xs (p - e - 1))) := rfl
  obtain ⟨q, hq⟩ : ∃ q, Mc.cntB xs p e = q := ⟨_, rfl⟩
  rw [hq] at HI ⊢
  clear hq cH hP
  generalize Mc.hasB xs p = z1 at *
  generalize Mc.hasB xs (p - e - 1) = z2 at *
  rcases z1
  · have HE : Hid (z2 = q) := Lib.hid (by rw [HI.out]; rfl)
    go_enter Tryz.func30, Tryz.ntmps30
    go_wp2_with fail
    refine c1.mono ?_
    rintro e w' ⟨rfl, rfl⟩
    go_wp2_with fail
    refine c2.mono ?_
    rintro e w' ⟨rfl, rfl⟩
    go_wp2
    go_ret
    exact ⟨ret_bool HE.out, rfl⟩
  · have HE : Hid (true = q) := Lib.hid (by rw [HI.out]; rfl)
    go_enter Tryz.func30, Tryz.ntmps30
    go_wp2_with fail
    refine c1.mono ?_
    rintro e w' ⟨rfl, rfl⟩
    go_wp2
    go_ret
    exact ⟨ret_bool HE.out, rfl⟩
theorem upto_fsnoc (f : Int → Bool) (k : Nat) : (Ex.upto (k + 1)).filter f = (Ex.upto k).filter f ++ (if f (k : Int) = true then [(k : Int)] else []) := by
  rw [Ex.upto_snoc, List.filter_append]
  congr 1
  by_cases h : f (k : Int) = true
  · rw [if_pos h, List.filter_cons_of_pos h, List.filter_nil]
  · rw [if_neg h, List.filter_cons_of_neg h, List.filter_nil]
/- those of the first j places that are picked -/
def pkJ (pos l : List Int) (j : Nat) : List Int := ((Ex.upto j).filter (fun k => Mc.cntB pos (k + 1) l.length)).map (fun k => l.getD k.toNat 0)
theorem pkJ_len (pos l : List Int) (j : Nat) : (pkJ pos l j).length ≤ j := by
  unfold pkJ
  rw [List.length_map]
  refine Nat.le_trans (List.length_filter_le _ _) ?_
  rw [Ex.upto_len]; exact Nat.le_refl _
theorem pkJ_snoc {pos l : List Int} {j : Nat} (hj : j < l.length) : pkJ pos l (j + 1) = pkJ pos l j ++ (if Mc.cntB pos ((j : Int) + 1) l.length = true then [l[j]] else []) := by
  unfold pkJ
  rw [upto_fsnoc, List.map_append]
  congr 1
  by_cases h : Mc.cntB pos ((j : Int) + 1) l.length = true
  · rw [if_pos h, if_pos h, List.map_cons, List.map_nil]; simp [hj]
  · rw [if_neg h, if_neg h, List.map_nil]
theorem pkJ_all {pos l : List Int} (h : pos ≠ []) : Ex.picked pos l = pkJ pos l l.length := by
  rw [Ex.picked_ks]
  unfold Ex.ks pkJ
  rw [if_neg h]
  simp
theorem ofDay_snoc {ss : List Int} {j : Nat} (hj : j < ss.length) (d : Int) : Ex.ofDay (ss.take (j + 1)) d = Ex.ofDay (ss.take j) d ++ [86400 * d + ss[j]] := by
  unfold Ex.ofDay
  rw [List.take_succ_eq_append_getElem hj, List.map_append]
  rfl
theorem flat_snoc (ss ds : List Int) (d : Int) : (ds ++ [d]).flatMap (Ex.ofDay ss) = ds.flatMap (Ex.ofDay ss) ++ Ex.ofDay ss d := by
  rw [List.flatMap_append, List.flatMap_cons, List.flatMap_nil, List.append_nil]
theorem dayL_len (r : Rm.Ru) (db f l : Int) : (Ex.dayL r db f l).length ≤ (l + 1 - f).toNat := by
  unfold Ex.dayL
  refine Nat.le_trans (List.length_filter_le _ _) ?_
  unfold Ex.days
  rw [List.length_map, List.length_range]; exact Nat.le_refl _
theorem okB_dayB {b : Int} (h : Clk.okB b = true) : Cal.dayB (b / 86400) = true := by
  have := Clk.okB_iff.1 h
  rw [Cal.dayB_iff]; omega
set_option maxRecDepth 100000 in
set_option maxHeartbeats 8000000 in
theorem rtimes_anyK (V : Rm.Rv) (b k : Int) (S : Option Addr) (ns cs : Nat) (ss : List Int) (w : World) (hM : RuM w w.heap.size V) (hd : V.day.n ≤ 140737488355328) (hn : ∀ i, i < 8 → (V.sl i).n ≤ 140737488355328)
    (hf : Rm.fm V.r = true) (hb : Clk.okB b = true) (k1 : -4000000 ≤ k) (k2 : k ≤ 4000000) (hS : Nums w w.heap.size S ns ss) (hns : ns ≤ 200) (hss : ∀ s ∈ ss, 0 ≤ s ∧ s < 86400) :
    Calls Tryz.prog 14 #[.agg V.val, .int .i64 b, .int .i64 k, .slice S ns cs] w fun e w' => ∃ A n c, e = .returned (.slice A n c) ∧ Gr w w' ∧ Hid (NumK w' (fun k => w.heap.size ≤ k) A n (Ex.tms V.r (b / 86400) k ss)) := by
  obtain ⟨f1, ⟨i1, i2⟩, f3⟩ := fm_head hf
  have hdb := okB_dayB hb
  obtain ⟨b1, b2⟩ := Clk.okB_iff.1 hb
  have tb : b.tdiv 86400 = b / 86400 := Int.tdiv_eq_ediv_of_nonneg (by omega)
  have x1 : 0 ≤ b / 86400 := by omega
  have x2 : b / 86400 ≤ 1000000000 := by omega
  have hbx := RBx.now w V 27
  have hg : Gr w (w.alloc (.cells V.val 27)) := (Gr.refl w).allocO _
  have hsp := Ex.span_day V.r (b / 86400) k
  have cS := fun w' => rspan_any V (b / 86400) k w' f3 hdb k1 k2
  have hF := Lib.hid (fun w' (g : Gr w w') d (h : Cal.dayB d = true) => rfits14_any V (b / 86400) d w' (hM.gr g) hd hn hf hdb h)
  have hP := Lib.hid (fun w' (g : Gr w w') p e => rcnt15_any V.pos.A V.pos.n V.pos.c V.r.pos p e w' ((hM.l 7 (by decide)).gr g) (hn 7 (by decide)))
  have l7 : V.r.pos.length = V.pos.n := (hM.l 7 (by decide)).1
  have HT : Hid (Ex.tms V.r (b / 86400) k ss = if k < 0 ∨ k % V.r.ivl ≠ 0 then [] else Ex.picked V.r.pos ((Ex.dayL V.r (b / 86400) (Mc.span V.r (b / 86400) k).1 (Mc.span V.r (b / 86400) k).2).flatMap (Ex.ofDay ss))) := Lib.hid rfl
  generalize Ex.tms V.r (b / 86400) k ss = RS at *
  have HD := Lib.hid (fun (f d : Int) (h : f ≤ d) (hf : Mc.fits V.r (b / 86400) d = true) => Ex.dayL_yes (r := V.r) h hf)
  have HN := Lib.hid (fun (f d : Int) (h : f ≤ d) (hf : Mc.fits V.r (b / 86400) d = false) => Ex.dayL_no (r := V.r) h hf)
  have HL0 := Lib.hid (fun f l => dayL_len V.r (b / 86400) f l)
  have HZ : Hid (∀ f l, l < f → Ex.dayL V.r (b / 86400) f l = []) := Lib.hid (fun f l h => by unfold Ex.dayL; rw [Ex.days_nil h]; rfl)
  generalize Ex.dayL V.r (b / 86400) = DL at *
  generalize Mc.fits V.r (b / 86400) = FT at *
  have HSS := Lib.hid (And.intro hS hss)
  have hsl := hS.1
  clear hM hd hn hf hb f1 f3 hdb hS hss
  have hsp2 : ((Mc.span V.r (b / 86400) k).1 = 0 ∧ (Mc.span V.r (b / 86400) k).2 = -1) ∨ (1 ≤ (Mc.span V.r (b / 86400) k).1 ∧ (Mc.span V.r (b / 86400) k).1 ≤ (Mc.span V.r (b / 86400) k).2 ∧ (Mc.span V.r (b / 86400) k).2 ≤ 3652059) := by
    rcases hsp with h | h
    · rw [h]; exact .inl ⟨rfl, rfl⟩
    · exact .inr h
  clear hsp
  generalize (Mc.span V.r (b / 86400) k).1 = f at *
  generalize (Mc.span V.r (b / 86400) k).2 = l at *
  generalize b / 86400 = db at *
  have hl1 : l ≤ 3652059 := by omega
  have hf0 : 0 ≤ f := by omega
  have hfl : f ≤ l + 1 := by omega
  have hdd : Hid (∀ d, f ≤ d → d ≤ l → Cal.dayB d = true) := Lib.hid (fun d h1 h2 => by rw [Cal.dayB_iff]; omega)
  clear hsp2
  have hiv0 : V.r.ivl ≠ 0 := by omega
  have HX := Lib.hid hbx
  have e1 := hbx.c1
  clear hbx
  go_enter Tryz.func14, Tryz.ntmps14
  go_upto_region 1 with fail
  generalize w.alloc (.cells V.val 27) = W at *
  by_cases hk0 : k < 0
  · as_aux_lemma =>
    clear cS
    go_wp2
    go_ret
    exact ⟨none, 0, 0, rfl, hg, Lib.hid (by rw [HT.out, if_pos (.inl hk0)]; exact NumK.nil _ _ _)⟩
  have tk : k.tmod V.r.ivl = k % V.r.ivl := Int.tmod_eq_emod_of_nonneg (by omega)
  have tk1 : 0 ≤ k % V.r.ivl := Int.emod_nonneg _ hiv0
  have tk2 : k % V.r.ivl < V.r.ivl := Int.emod_lt_of_pos _ (by omega)
  by_cases hkm : k % V.r.ivl = 0
  case neg =>
    as_aux_lemma =>
    have HR : Hid (RS = []) := Lib.hid (by rw [HT.out, if_pos (.inr hkm)])
    clear cS
    generalize k % V.r.ivl = kr at *
    go_wp2
    go_ret
    first | exact ⟨none, 0, 0, rfl, hg, Lib.hid (by rw [HR.out]; exact NumK.nil _ _ _)⟩ | exact ⟨none, 0, ⟨0, rfl⟩, hg, Lib.hid (by rw [HR.out]; exact NumK.nil _ _ _)⟩
  have HT2 := Lib.hid (by have := HT.out; rwa [if_neg (fun h => h.elim hk0 (fun h => h hkm))] at this)
  clear HT
  generalize k % V.r.ivl = kr at *
  obtain rfl := hkm
  go_upto_region 3 with fail
  have hx := HX.out
  go_wp2_with (refine wpList_load_rule rfl _ rfl rfl hx ?_)
  refine (cS _).mono ?_
  rintro e w1 ⟨rfl, hgn⟩
  have hx := hx.gr hgn
  have hg := hg.trans hgn
  have HX := Lib.hid hx
  clear hx hgn cS e1
  go_wp2
  go_loopg [11, 12] (l + 1 - f).toNat (fun g v11 v12 wx => ∃ (d : Int) (m cp : Nat) (R : Option Addr), v11 = .slice R m cp ∧ v12 = .int .i64 d ∧ f ≤ d ∧ d ≤ l + 1 ∧ (d - f).toNat + g = (l + 1 - f).toNat ∧ Hid (OwnV wx w1.heap.size 2 R m cp (ivs ((DL f (d - 1)).flatMap (Ex.ofDay ss)))) ∧ Gr w1 wx)
  case atStart => exact ⟨f, 0, 0, none, rfl, rfl, by omega, by omega, by omega, Lib.hid (by rw [HZ.out f (f - 1) (by omega)]; exact OwnV.nil _ _ _), Gr.refl _⟩
  case round =>
    obtain ⟨d, m, cp, R, rfl, rfl, h1, h2, hkg, HO, hgr⟩ := hrel
    have HK := Lib.hid hkg
    clear hkg
    have hm : ((DL f (d - 1)).flatMap (Ex.ofDay ss)).length = m := ivs_len HO.out
    have hml : m ≤ 800000000 := by
      have q1 := HL0.out f (d - 1)
      rw [Ex.flat_len, hsl] at hm
      have q2 := Nat.mul_le_mul q1 hns
      have q3 : (d - 1 + 1 - f).toNat ≤ 3652060 := by omega
      have q4 := Nat.mul_le_mul_right 200 q3
      omega
    have HM := Lib.hid hm
    clear hm
    have hx := HX.out.gr hgr
    by_cases hdl : d ≤ l
    · have c := hF.out wr (hg.trans hgr) d (hdd.out d h1 hdl)
      have hd3 : 0 ≤ d := by omega
      have hd4 : d ≤ 3652059 := by omega
      have ho := HO.out
      clear HO
      cases hq : FT d
      · as_aux_lemma =>
        rw [hq] at c
        have HS := Lib.hid (HN.out f d h1 hq)
        clear hq HSS
        go_wp2_with (first | (refine wpList_load_rule rfl _ rfl rfl hx ?_) | (go_at_call 29; refine c.mono ?_; rintro e w2 ⟨rfl, hg2⟩))
        go_roundg (l + 1 - (d + 1)).toNat
        case measure => have := HK.out; omega
        case rel => exact ⟨d + 1, m, cp, R, by go_num, rfl, by omega, by omega, by omega, Lib.hid (by rw [show d + 1 - 1 = d by omega, HS.out]; exact ho.gr hg2), hgr.trans hg2⟩
      · rw [hq] at c
        have HS := Lib.hid (HD.out f d h1 hq)
        clear hq
        go_wp2_with (first | (refine wpList_load_rule rfl _ rfl rfl hx ?_) | (go_at_call 29; refine c.mono ?_; rintro e w2 ⟨rfl, hg2⟩; have ho := ho.gr hg2; have hgr := hgr.trans hg2; clear hg2 c hx))
        generalize hPd : (DL f (d - 1)).flatMap (Ex.ofDay ss) = P at *
        have HPd := Lib.hid hPd
        clear hPd
        go_loopg [11, 47] ns (fun g v11 v47 wx => ∃ (j m2 cp2 : Nat) (R2 : Option Addr), v11 = .slice R2 m2 cp2 ∧ v47 = .int .i64 (j : Int) ∧ j + g = ns ∧ Hid (OwnV wx w1.heap.size 2 R2 m2 cp2 (ivs (P ++ Ex.ofDay (ss.take j) d))) ∧ Gr w1 wx)
        case atStart => exact ⟨0, m, cp, R, rfl, rfl, by omega, Lib.hid (by rw [List.take_zero]; simpa [Ex.ofDay] using ho), hgr⟩
        case round =>
          obtain ⟨j, m2, cp2, R2, rfl, rfl, hjg, HO2, hgr2⟩ := hrel
          have HJ := Lib.hid hjg
          clear hjg
          have hm2 : m2 ≤ 900000000 := by
            have q := ivs_len HO2.out
            rw [List.length_append, HM.out, Ex.ofDay_len, List.length_take] at q
            omega
          by_cases hj : j < ns
          · as_aux_lemma =>
            obtain ⟨hS, hss⟩ := HSS.out
            obtain ⟨ad, hj', rfl, hbl, hc0⟩ := hS.at_ hj
            have d0 := ((hg.trans hgr2).below.cell (p := ad.add j) (by rw [add_block]; exact hbl)).trans hc0
            have sb := hss ss[j] (List.getElem_mem hj')
            have HS2 := Lib.hid (ofDay_snoc hj' d)
            have ho2 := HO2.out
            clear hS hss hc0
            generalize ss[j] = x at *
            obtain ⟨sb0, sb1⟩ := sb
            have hjn : (j : Int) < (ns : Int) := by omega
            go_wp2_with (at_builtin; refine apP wr rfl (.tmp 50) (.tmp 58) 30 2 (.int .i64 0) Tryz.underlying30 info_i64 rfl rfl w1.heap.size R2 m2 cp2 _ rfl ho2 (.int .i64 (86400 * d + x)) rfl rfl (by omega) hgr2.lt ?_; intro g5 cap5 w5 hA5)
            go_roundg (ns - (j + 1))
            case measure => have := HJ.out; omega
            case rel => exact ⟨j + 1, m2 + 1, cap5, _, by go_num, rfl, by omega, Lib.hid (by rw [HS2.out, ← List.append_assoc, ivs_app]; exact hA5.own), hA5.gr ho2 (Nat.le_refl _) hgr2⟩
          · as_aux_lemma =>
            obtain rfl : j = ns := by have := HJ.out; omega
            have ho2 := HO2.out
            rw [List.take_of_length_le (by rw [hsl]; exact Nat.le_refl _)] at ho2
            go_wp2
            go_roundg (l + 1 - (d + 1)).toNat
            case measure => have := HK.out; omega
            case rel => exact ⟨d + 1, m2, cp2, R2, by go_num, rfl, by omega, by omega, by omega, Lib.hid (by rw [show d + 1 - 1 = d by omega, HS.out, flat_snoc, HPd.out]; exact ho2), hgr2⟩
    · obtain rfl : d = l + 1 := by omega
      have ho := HO.out
      have hm := HM.out
      rw [show l + 1 - 1 = l by omega] at ho hm
      clear HM HO HD HN HL0 HZ hdd hF HSS
      have e16 := hx.c16
      generalize (DL f l).flatMap (Ex.ofDay ss) = AL at *
      have HM := Lib.hid hm
      by_cases hp : V.pos.n = 0
      · as_aux_lemma =>
        have HR : Hid (RS = AL) := Lib.hid (by rw [HT2.out]; unfold Ex.picked; rw [if_pos (List.eq_nil_of_length_eq_zero (by rw [l7, hp]))])
        clear hm HM l7
        go_wp2
        go_ret
        first | exact ⟨R, m, cp, rfl, hg.trans hgr, Lib.hid (by rw [HR.out]; exact (own_numK ho).weak (fun k _ h => Nat.le_trans hg.lt h))⟩ | exact ⟨R, m, ⟨cp, rfl⟩, hg.trans hgr, Lib.hid (by rw [HR.out]; exact (own_numK ho).weak (fun k _ h => Nat.le_trans hg.lt h))⟩
      · have HR : Hid (RS = pkJ V.r.pos AL m) := Lib.hid (by rw [HT2.out, pkJ_all (fun e => hp (by rw [← l7, e]; rfl)), hm])
        have HL7 := Lib.hid l7
        have HHO := Lib.hid ho
        obtain ⟨W3, hW3⟩ : ∃ W3, W3 = wr := ⟨_, rfl⟩
        subst hW3
        clear hm l7 ho
        go_wp2
        go_loopg [14, 68] m (fun g v14 v68 wx => ∃ (j m3 cp3 : Nat) (R3 : Option Addr), v14 = .slice R3 m3 cp3 ∧ v68 = .int .i64 (j : Int) ∧ j + g = m ∧ Hid (OwnV wx W3.heap.size 2 R3 m3 cp3 (ivs (pkJ V.r.pos AL j))) ∧ Gr W3 wx)
        case atStart => exact ⟨0, 0, 0, none, rfl, rfl, by omega, Lib.hid (OwnV.nil _ _ _), Gr.refl _⟩
        case round =>
          obtain ⟨j, m3, cp3, R3, rfl, rfl, hjg, HO3, hgr3⟩ := hrel
          have HJ := Lib.hid hjg
          clear hjg
          have hm3 : m3 ≤ j := by have q := ivs_len HO3.out; have q2 := pkJ_len V.r.pos AL j; omega
          have hxx := hx.gr hgr3
          have e16 := hxx.c16
          clear hxx
          by_cases hj : j < m
          · obtain ⟨ad, hj', rfl, hbl, hc0⟩ := (own_numsK HHO.out).at_ hj
            have d0 := (hgr3.below.cell (p := ad.add j) (by rw [add_block]; exact hbl)).trans hc0
            have hjn : (j : Int) < (m : Int) := by omega
            have c := hP.out wr ((hg.trans hgr).trans hgr3) ((j : Int) + 1) (m : Int) (by omega) (by omega) (by omega) (by omega)
            have HS := Lib.hid (pkJ_snoc (pos := V.r.pos) hj')
            have HS := Lib.hid (by have := HS.out; rwa [HM.out] at this)
            have ho3 := HO3.out
            clear hc0
            generalize AL[j] = x at *
            cases hq : Mc.cntB V.r.pos ((j : Int) + 1) (m : Int)
            · as_aux_lemma =>
              rw [hq] at c
              have HS := Lib.hid (by have := HS.out; rwa [hq, if_neg (by decide), List.append_nil] at this)
              clear hq
              go_wp2_with (go_at_call 30; refine c.mono ?_; rintro e w2 ⟨rfl, rfl⟩)
              go_roundg (m - (j + 1))
              case measure => have := HJ.out; omega
              case rel => exact ⟨j + 1, m3, cp3, R3, by go_num, rfl, by omega, Lib.hid (by rw [HS.out]; exact ho3), hgr3⟩
            · as_aux_lemma =>
              rw [hq] at c
              have HS := Lib.hid (by have := HS.out; rwa [hq, if_pos rfl] at this)
              clear hq
              go_wp2_with (first | (go_at_call 30; refine c.mono ?_; rintro e w2 ⟨rfl, rfl⟩) | (at_builtin; refine apP wr rfl (.tmp 78) (.tmp 83) 30 2 (.int .i64 0) Tryz.underlying30 info_i64 rfl rfl W3.heap.size R3 m3 cp3 _ rfl ho3 (.int .i64 x) rfl rfl (by omega) hgr3.lt ?_; intro g5 cap5 w5 hA5))
              go_roundg (m - (j + 1))
              case measure => have := HJ.out; omega
              case rel => exact ⟨j + 1, m3 + 1, cap5, _, by go_num, rfl, by omega, Lib.hid (by rw [HS.out, ivs_app]; exact hA5.own), hA5.gr ho3 (Nat.le_refl _) hgr3⟩
          · as_aux_lemma =>
            obtain rfl : j = m := by have := HJ.out; omega
            go_wp2
            go_ret
            first | exact ⟨R3, m3, cp3, rfl, (hg.trans hgr).trans hgr3, Lib.hid (by rw [HR.out]; exact (own_numK HO3.out).weak (fun k _ h => Nat.le_trans (hg.trans hgr).lt h))⟩ | exact ⟨R3, m3, ⟨cp3, rfl⟩, (hg.trans hgr).trans hgr3, Lib.hid (by rw [HR.out]; exact (own_numK HO3.out).weak (fun k _ h => Nat.le_trans (hg.trans hgr).lt h))⟩
theorem rtimes_any (V : Rm.Rv) (b k : Int) (S : Option Addr) (ns cs : Nat) (ss : List Int) (w : World) (hM : RuM w w.heap.size V) (hd : V.day.n ≤ 140737488355328) (hn : ∀ i, i < 8 → (V.sl i).n ≤ 140737488355328)
    (hf : Rm.fm V.r = true) (hb : Clk.okB b = true) (k1 : -4000000 ≤ k) (k2 : k ≤ 4000000) (hS : Nums w w.heap.size S ns ss) (hns : ns ≤ 200) (hss : ∀ s ∈ ss, 0 ≤ s ∧ s < 86400) :
    Calls Tryz.prog 14 #[.agg V.val, .int .i64 b, .int .i64 k, .slice S ns cs] w fun e w' => ∃ A n c, e = .returned (.slice A n c) ∧ Gr w w' ∧ Hid (Nums w' w'.heap.size A n (Ex.tms V.r (b / 86400) k ss)) := by
  refine (rtimes_anyK V b k S ns cs ss w hM hd hn hf hb k1 k2 hS hns hss).mono ?_
  rintro e w' ⟨A, n, c, rfl, hg, hN⟩
  exact ⟨A, n, c, rfl, hg, Lib.hid hN.out.nums⟩
end Go.Proofs.YtmbmkldcedkbmaaGreat
namespace Go.Proofs.YtmbmkldcedkbmaaGreat
open Go.RowKit

namespace Ex
theorem ob_len (l : List Int) (b : Int) : (ob l b).length = max 1 l.length := by
  unfold ob
  by_cases h : l = []
  · rw [if_pos h, h]; rfl
  · rw [if_neg h]
    have := List.length_pos_iff.2 h
    omega
theorem tms_far {r : Rm.Ru} {db k : Int} {ss : List Int} (hb : Cal.dayB db = true) (hs : 0 ≤ r.st ∧ r.st ≤ 6) (h : 3652059 < k) : tms r db k ss = [] := by
  have h1 := stop_far (r := r) (B := 86400 * db) (e := 86400 * 4000000) (k := k) (by rw [show 86400 * db / 86400 = db by omega]; exact hb) hs h
  unfold stop at h1
  rw [show 86400 * db / 86400 = db by omega] at h1
  have h2 : (Mc.span r db k).2 < (Mc.span r db k).1 := by
    rcases span_day r db k with h3 | ⟨h3, h4, h5⟩
    · rw [h3]; decide
    · simp only [Bool.or_eq_true, decide_eq_true_eq] at h1
      omega
  unfold tms
  split
  · rfl
  · have : all r db k ss = [] := by unfold all; rw [days_nil h2]; rfl
    rw [this]
    unfold picked
    split <;> rfl
theorem tms_len (r : Rm.Ru) (db k : Int) (ss : List Int) (h : ss.length ≤ 200) : (tms r db k ss).length ≤ 1000000000 := by
  refine Nat.le_trans (tms_sub r db k ss).length_le ?_
  rw [all_dayL, flat_len]
  have q1 := dayL_len r db (Mc.span r db k).1 (Mc.span r db k).2
  have q3 : ((Mc.span r db k).2 + 1 - (Mc.span r db k).1).toNat ≤ 3652060 := by
    rcases span_day r db k with h3 | ⟨h3, h4, h5⟩
    · rw [h3]; decide
    · omega
  have q2 := Nat.mul_le_mul (Nat.le_trans q1 q3) h
  omega
end Ex
theorem secs_len (V : Rm.Rv) (b : Int) (hf : Rm.fm V.r = true) (h0 : V.r.sec.length = V.sec.n) (h1 : V.r.min.length = V.min.n) (h2 : V.r.hour.length = V.hour.n) : ((Ex.secs V.r (b % 86400)).length : Int) = PD V := by
  have hfl : Rm.fine 0 V.r.sec = true ∧ Rm.fine 1 V.r.min = true ∧ Rm.fine 2 V.r.hour = true := by
    unfold Rm.fm Rm.fmL at hf
    simp only [Bool.and_eq_true] at hf
    obtain ⟨⟨_, h⟩, _⟩ := hf
    exact ⟨h.1.1.1.1.1.1.1.1, h.1.1.1.1.1.1.1.2, h.1.1.1.1.1.1.2⟩
  obtain ⟨f0, f1, f2⟩ := hfl
  rw [Ex.secs_prod f0 f1 f2 (by omega) (by omega), Ex.prodS_len, Ex.ob_len, Ex.ob_len, Ex.ob_len, h0, h1, h2]
  unfold PD
  rw [Int.mul_assoc]
  push_cast
  have e (n : Nat) : ((max 1 n : Nat) : Int) = max 1 (n : Int) := by omega
  rw [e, e, e]
section
variable {ops : Array Oper} {Q : Exit → Act → World → Prop} {S : World → Prop}
theorem WkS.takeg {i : Nat} {oi : Oper} {v : Value} {m : Nat} {listed : Array Bool} {a : Act} {w : World} (hi : ops[i]? = some oi)
    (hs : Region.noSelect ops = true) (hf : Region.free .any ops listed i = true) (hr : (Region.ready .any ops listed).contains i = true) (hg : Region.wanted oi (yielded ops a.tmps) = true)
    (hQ : ∀ c a w, Q (.panic c) (a.put oi.dst v) w → Q (.panic c) a w) (hy : ∀ w, S w → (execOp a.eval oi).run Tryz.prog w = .ok (.value v) w) (hS : S w)
    (h : WkS ops Q S m (listed.setIfInBounds i true) (a.put oi.dst v) w) : WkS ops Q S (m + 1) listed a w :=
  WkS.first hi hs hQ m listed a w (Region.free_spec hi hf) (by simpa using hr) (.inl ⟨hg, hy⟩) hS h
theorem WkS.opg {i : Nat} {oi : Oper} {K : Act → World → Prop} {a : Act} {w : World} (hi : ops[i]? = some oi) (hg : Region.wanted oi (yielded ops a.tmps) = true)
    (h : ∀ K2 : Act → World → Prop, (∀ a' w', K a' w' → K2 a' w') → Oper.wp Tryz.prog oi a w K2 Q) : wpOp Tryz.prog ops Q i K a w :=
  wpOp_step hi (fun K2 hK => by rw [if_pos hg]; exact h K2 hK)
end
end Go.Proofs.YtmbmkldcedkbmaaGreat
