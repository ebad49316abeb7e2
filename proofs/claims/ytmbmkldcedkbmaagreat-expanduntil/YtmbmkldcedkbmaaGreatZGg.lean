/- The texts RefWeek, MtRd, MrWk, one behind the other. -/
import Derived.Test.YtmbmkldcedkbmaaGreatZW
import Derived.Test.YtmbmkldcedkbmaaGreatZIsoCal
import Derived.Test.YtmbmkldcedkbmaaGreatZGa
import Derived.Test.YtmbmkldcedkbmaaGreatZGd
namespace Go.Proofs.YtmbmkldcedkbmaaGreat.Iso
open Go.RowKit

theorem new1 (y : Int) : Cal.num y 1 1 = Cal.dby y + 1 := by unfold Cal.num; rw [Cal.cum_1]; omega
set_option maxHeartbeats 1000000 in
theorem week1_any (y s : Int) (w : World) (y1 : -40000 ≤ y) (y2 : y ≤ 40000) (s0 : 0 ≤ s) (s1 : s ≤ 6) :
    Calls Tryz.prog 84 #[.int .i64 y, .int .i64 s] w fun e w' => e = .returned (.int .i64 (w1 y s)) ∧ w = w' := by
  have b := Cal.dby_bdw y1 y2
  have HN := Lib.hid (new1 y)
  have HU : Hid (∀ n, Cal.dby y - 2 ≤ n → n ≤ Cal.dby y + 4 → n % 7 = s → n = w1 y s) := fun n a b c => w1_of a b c
  have HB := Lib.hid (w1_bd y s)
  have HM := Lib.hid (w1_mod y s0 s1)
  go_enter Tryz.func84, Tryz.ntmps84
  go_wp2_with fail
  refine (greg_any _ _ _ _ y1 y2 (by omega) (by omega) (by omega) (by omega)).mono ?_
  rintro e w' ⟨rfl, rfl⟩
  rw [HN.out]
  go_wp2
  go_loop [5] (fun t => ∃ k : Int, Cal.dby y - 2 ≤ k ∧ k ≤ w1 y s ∧ t = .int .i64 k) (fun t => (w1 y s - intOf t).toNat)
  case atStart => exact ⟨Cal.dby y + 1 - 3, by omega, by have := HB.out; omega, rfl⟩
  case round =>
    obtain ⟨k, k1, k2, rfl⟩ := hrel
    have k3 : k ≤ Cal.dby y + 4 := by have := HB.out; omega
    by_cases hk : k % 7 = s
    · obtain rfl := HU.out k k1 k3 hk
      go_wp2_with fail
      refine (mod_any _ _ _ (by omega) (by omega) (by omega) (by omega)).mono ?_
      rintro e w' ⟨rfl, rfl⟩
      rw [HM.out]
      go_wp2
      go_ret
      exact ⟨rfl, rfl⟩
    · have hk' : (k % 7 == s) = false := by simpa using hk
      have k4 : k < w1 y s := by
        by_cases e : k = w1 y s
        · exact absurd (by rw [e]; exact HM.out) hk
        · omega
      go_wp2_with fail
      refine (mod_any _ _ _ (by omega) (by omega) (by omega) (by omega)).mono ?_
      rintro e w' ⟨rfl, rfl⟩
      go_wp2
      go_round
      case rel => exact ⟨k + 1, by omega, by omega, rfl⟩
      case measure => simp [intOf]; omega
end Go.Proofs.YtmbmkldcedkbmaaGreat.Iso
namespace Go.Proofs.YtmbmkldcedkbmaaGreat
open Go.RowKit

set_option maxHeartbeats 1000000 in
theorem rweekday_any (n : Int) (w : World) (n1 : -1000000000 ≤ n) (n2 : n ≤ 1000000000) :
    Calls Tryz.prog 57 #[.int .i64 n] w fun e w' => e = .returned (.int .i64 (n % 7)) ∧ w = w' := by
  go_enter Tryz.func57, Tryz.ntmps57
  go_wp2_with fail
  refine (mod_any _ _ _ (by omega) (by omega) (by omega) (by omega)).mono ?_
  rintro e w' ⟨rfl, rfl⟩
  go_wp2
  go_ret
  exact ⟨rfl, rfl⟩
set_option maxHeartbeats 1000000 in
theorem rbegin_any (n s : Int) (w : World) (s0 : 0 ≤ s) (s1 : s ≤ 6) (n1 : -100000000 ≤ n) (n2 : n ≤ 100000000) :
    Calls Tryz.prog 47 #[.int .i64 n, .int .i64 s] w fun e w' => e = .returned (.int .i64 (Mc.beg n s)) ∧ w = w' := by
  have HU : Hid (∀ k, k ≤ n → n ≤ k + 6 → k % 7 = s → k = Mc.beg n s) := fun k a b c => Mc.beg_of a b c
  have HB := Lib.hid (Mc.beg_bd n s)
  have HM := Lib.hid (Mc.beg_mod (n := n) s0 s1)
  go_enter Tryz.func47, Tryz.ntmps47
  go_wp2
  go_loop [0] (fun t => ∃ k : Int, Mc.beg n s ≤ k ∧ k ≤ n ∧ t = .int .i64 k) (fun t => (intOf t - Mc.beg n s).toNat)
  case atStart => exact ⟨n, HB.out.1, by omega, rfl⟩
  case round =>
    obtain ⟨k, k1, k2, rfl⟩ := hrel
    have k3 : n ≤ k + 6 := by have := HB.out; omega
    by_cases hk : k % 7 = s
    · obtain rfl := HU.out k k2 k3 hk
      go_wp2_with fail
      refine (rweekday_any _ _ (by omega) (by omega)).mono ?_
      rintro e w' ⟨rfl, rfl⟩
      rw [HM.out]
      go_wp2
      go_ret
      exact ⟨rfl, rfl⟩
    · have hk' : (k % 7 == s) = false := by simpa using hk
      have k4 : Mc.beg n s < k := by
        by_cases e : k = Mc.beg n s
        · exact absurd (by rw [e]; exact HM.out) hk
        · omega
      go_wp2_with fail
      refine (rweekday_any _ _ (by omega) (by omega)).mono ?_
      rintro e w' ⟨rfl, rfl⟩
      go_wp2
      go_round
      case rel => exact ⟨k - 1, by omega, by omega, rfl⟩
      case measure => simp [intOf]; omega
set_option maxHeartbeats 1000000 in
theorem rdate14_any (n : Int) (w : World) (h : Cal.dayB n = true) :
    Calls Tryz.prog 46 #[.int .i64 n] w fun e w' => e = .returned (.agg #[.int .i64 (Cal.yr n), .int .i64 (Cal.mon n), .int .i64 (Cal.dom n)]) ∧ Gr w w' := by
  have H := Lib.hid h; clear h
  go_enter Tryz.func46, Tryz.ntmps46
  go_wp2_with fail
  refine (refdate0_yes _ _ H.out).mono ?_
  rintro e w1 ⟨rfl, hb⟩
  have hb := hb.alloc #[.int .i64 (Cal.yr n), .int .i64 (Cal.mon n), .int .i64 (Cal.dom n)] 85
  obtain ⟨c0, c1, c2⟩ := box3 hb
  have f0 := box_free hb 0
  have f1 := box_free hb 1
  have f2 := box_free hb 2
  obtain ⟨k0, k1, k2⟩ := box_now w1 (.int .i64 (Cal.yr n)) (.int .i64 (Cal.mon n)) (.int .i64 (Cal.dom n)) 85
  go_wp2
  obtain ⟨c0, c1, c2⟩ := box_set3 c0 c1 c2 (.int .i64 (Cal.yr n)) (.int .i64 (Cal.mon n)) (.int .i64 (Cal.dom n))
  have hg := gr_set3 hb (.int .i64 (Cal.yr n)) (.int .i64 (Cal.mon n)) (.int .i64 (Cal.dom n))
  generalize World.setCell _ _ _ = W at *
  exact bodyPost_ret (v := .agg #[.int .i64 (Cal.yr n), .int .i64 (Cal.mon n), .int .i64 (Cal.dom n)]) (by simp [results, Tryz.results46, go_sem, c0, c1, c2]) rfl ⟨rfl, hg⟩
set_option maxHeartbeats 1000000 in
theorem ryear_any (y : Int) (w : World) (y1 : -30000 ≤ y) (y2 : y ≤ 30000) :
    Calls Tryz.prog 55 #[.int .i64 y] w fun e w' => e = .returned (.int .i64 (Mc.ylen y)) ∧ w = w' := by
  have b1 := Cal.dby_bdw (a := y) (by omega) (by omega)
  have b2 := Cal.dby_bdw (a := y + 1) (by omega) (by omega)
  have HN1 := Lib.hid (Mc.num_jan y)
  have HN2 := Lib.hid (Mc.num_jan (y + 1))
  have HE : Hid (Cal.dby (y + 1) + 1 - (Cal.dby y + 1) = Mc.ylen y) := by
    show _ = _
    unfold Mc.ylen; omega
  go_enter Tryz.func55, Tryz.ntmps55
  go_wp2_with fail
  refine (fixed0_any _ _ _ _ (by omega) (by omega) (by omega) (by omega) (by omega) (by omega)).mono ?_
  rintro e w' ⟨rfl, rfl⟩
  rw [HN2.out]
  go_wp2_with fail
  refine (fixed0_any _ _ _ _ (by omega) (by omega) (by omega) (by omega) (by omega) (by omega)).mono ?_
  rintro e w' ⟨rfl, rfl⟩
  rw [HN1.out]
  go_wp2
  go_ret
  exact ⟨ret_int HE.out, rfl⟩
end Go.Proofs.YtmbmkldcedkbmaaGreat
namespace Go.Proofs.YtmbmkldcedkbmaaGreat
open Go.RowKit

set_option maxHeartbeats 1000000 in
theorem rhas_any (A : Option Addr) (n c : Nat) (xs : List Int) (x : Int) (w : World) (hP : Nums w w.heap.size A n xs) (hn : n ≤ 140737488355328) :
    Calls Tryz.prog 53 #[.slice A n c, .int .i64 x] w fun e w' => e = .returned (.bool (Mc.hasB xs x)) ∧ w = w' := by
  have HL := Lib.hid hP.1
  obtain ⟨q, hq⟩ : ∃ q, Mc.hasB xs x = q := ⟨_, rfl⟩
  rw [hq]
  have HQ := Lib.hid hq
  clear hq
  go_enter Tryz.func53, Tryz.ntmps53
  go_wp2
  go_loopg [8] n (fun g v wx => ∃ k : Nat, v = .int .i64 (k : Int) ∧ k + g = n ∧ w = wx ∧ Hid (Mc.hasB (xs.take k) x = false))
  case atStart => exact ⟨0, rfl, by omega, rfl, Lib.hid (by simp [Mc.hasB])⟩
  case round =>
    obtain ⟨k, rfl, hkg, rfl, HN⟩ := hrel
    have HG := Lib.hid hkg
    clear hkg
    by_cases hk : k < n
    · obtain ⟨ad, hk', rfl, hbl, hc⟩ := hP.at_ hk
      have HT := Lib.hid (List.take_succ_eq_append_getElem hk')
      have HM := Lib.hid (List.getElem_mem hk')
      cases hq : (xs[k] == x)
      · have HS : Hid (Mc.hasB (xs.take (k + 1)) x = false) := Lib.hid (by
          rw [HT.out]
          have h1 := HN.out
          unfold Mc.hasB at h1 ⊢
          rw [← Mc.any_eq] at h1 ⊢
          rw [List.any_append, h1, List.any_cons, List.any_nil, hq]; rfl)
        generalize xs[k] = a at *
        go_wp2
        go_roundg (n - (k + 1))
        case measure => have := HG.out; omega
        case rel => exact ⟨k + 1, by go_num, by omega, rfl, HS⟩
      · have HQ : Hid (true = q) := Lib.hid (by
          rw [← HQ.out]
          unfold Mc.hasB
          symm
          rw [List.contains_iff_mem]
          rw [← beq_iff_eq.1 hq]; exact HM.out)
        generalize xs[k] = a at *
        go_wp2
        go_ret
        exact ⟨ret_bool HQ.out, rfl⟩
    · obtain rfl : k = n := by have := HG.out; omega
      have HA : Hid (false = q) := Lib.hid (by
        have := HN.out
        rw [List.take_of_length_le (by rw [HL.out]; exact Nat.le_refl _)] at this
        rw [← HQ.out, this])
      go_wp2
      go_ret
      exact ⟨ret_bool HA.out, rfl⟩
set_option maxHeartbeats 1000000 in
theorem rcnt14_any (A : Option Addr) (n c : Nat) (xs : List Int) (p e : Int) (w : World) (hP : Nums w w.heap.size A n xs) (hn : n ≤ 140737488355328) (p1 : -100000 ≤ p) (p2 : p ≤ 100000) (e1 : -100000 ≤ e) (e2 : e ≤ 100000) :
    Calls Tryz.prog 30 #[.slice A n c, .int .i64 p, .int .i64 e] w fun r w' => r = .returned (.bool (Mc.cntB xs p e)) ∧ w = w' := by
  have cH := fun x => rhas_any A n c xs x w hP hn
  have c1 := cH p
  have c2 := cH (p - e - 1)
  have HI : Hid (Mc.cntB xs p e = (Mc.hasB xs p || Mc.hasB xs (p - e - 1))) := rfl
  obtain ⟨q, hq⟩ : ∃ q, Mc.cntB xs p e = q := ⟨_, rfl⟩
  rw [hq] at HI ⊢
  clear hq cH hP
  generalize Mc.hasB xs p = z1 at *
  generalize Mc.hasB xs (p - e - 1) = z2 at *
  rcases z1
  · have HE : Hid (z2 = q) := Lib.hid (by rw [HI.out]; rfl)
    go_enter Tryz.func30, Tryz.ntmps30
    go_wp2_with fail
    refine c1.mono ?_
    rintro e w' ⟨rfl, rfl⟩
    go_wp2_with fail
    refine c2.mono ?_
    rintro e w' ⟨rfl, rfl⟩
    go_wp2
    go_ret
    exact ⟨ret_bool HE.out, rfl⟩
  · have HE : Hid (true = q) := Lib.hid (by rw [HI.out]; rfl)
    go_enter Tryz.func30, Tryz.ntmps30
    go_wp2_with fail
    refine c1.mono ?_
    rintro e w' ⟨rfl, rfl⟩
    go_wp2
    go_ret
    exact ⟨ret_bool HE.out, rfl⟩
/- a date's year, taken off its value -/
set_option maxRecDepth 100000 in
theorem run_year (a b c : Int) (w : World) : (Instr.field 85 (.agg #[.int .i64 a, .int .i64 b, .int .i64 c]) 0).run Tryz.prog w = .ok (.int .i64 a) w := by kernel_rfl
set_option maxRecDepth 100000 in
set_option maxHeartbeats 2000000 in
theorem rinweek_any (V : Rm.Rv) (n : Int) (w : World) (hM : RuM w w.heap.size V) (hs : 0 ≤ V.r.st ∧ V.r.st ≤ 6) (hn : (V.week).n ≤ 140737488355328) (h : Cal.dayB n = true) :
    Calls Tryz.prog 54 #[.agg V.val, .int .i64 n] w fun r w' => r = .returned (.bool (Mc.inW V.r n)) ∧ Gr w w' := by
  obtain ⟨n1, n2⟩ := Cal.dayB_iff.1 h
  obtain ⟨s0, s1⟩ := hs
  have yb := Cal.yr_bd n1 n2
  have hg : Gr w (w.alloc (.cells V.val 27)) := (Gr.refl w).allocO _
  have hbx := RBx.now w V 27
  have e14 := hbx.c14
  have e7 := hbx.c7
  have cD := fun w' => rdate14_any n w' h
  have st := Iso.w1_step (Cal.yr n) s0 s1
  have wb := Iso.w1_bdw V.r.st (a := Cal.yr n) (by omega) (by omega)
  have wb2 := Iso.w1_bdw V.r.st (a := Cal.yr n + 1) (by omega) (by omega)
  have cW := fun y (y1 : -40000 ≤ y) (y2 : y ≤ 40000) w' => Iso.week1_any y V.r.st w' y1 y2 s0 s1
  have w1b : Iso.w1 (Cal.yr n) V.r.st ≤ n + 10 ∧ n ≤ Iso.w1 (Cal.yr n) V.r.st + 380 := by
    have a := Iso.w1_bd (Cal.yr n) V.r.st
    have b := Mc.year_of n
    have c := Mc.ylen_cases (Cal.yr n)
    unfold Mc.ylen at c
    omega
  have cC := fun p e w' (g : Gr w w') p1 p2 e1 e2 => rcnt14_any V.week.A V.week.n V.week.c V.r.week p e w' ((hM.l 5 (by decide)).gr g) hn p1 p2 e1 e2
  have HI : Hid (Mc.inW V.r n = (decide (Iso.w1 (Cal.yr n) V.r.st ≤ n) && decide (n < Iso.w1 (Cal.yr n + 1) V.r.st) && Mc.cntB V.r.week ((n - Iso.w1 (Cal.yr n) V.r.st) / 7 + 1) ((Iso.w1 (Cal.yr n + 1) V.r.st - Iso.w1 (Cal.yr n) V.r.st) / 7))) := rfl
  obtain ⟨q, hq⟩ : ∃ q, Mc.inW V.r n = q := ⟨_, rfl⟩
  rw [hq] at HI ⊢
  have c1 := cW (Cal.yr n) (by omega) (by omega)
  have c2 := cW (Cal.yr n + 1) (by omega) (by omega)
  clear hq hM hn hbx cW h
  generalize Cal.mon n = m at *
  generalize Cal.dom n = d at *
  go_enter Tryz.func54, Tryz.ntmps54
  go_wp2_with fail
  refine (cD _).mono ?_
  rintro e w1 ⟨rfl, hg1⟩
  have e14 := gr_cell hg1 e14
  have e7 := gr_cell hg1 e7
  have hg := hg.trans hg1
  clear hg1 cD
  generalize Cal.yr n = y at *
  generalize V.r.st = s at *
  clear c1 c2
  go_wp2_with fail
  rw [run_year]
  go_upto_region 2 with fail
  go_quiet (first | (go_at_call 84; exact qsame (Iso.week1_any _ _ _ (by omega) (by omega) s0 s1)))
  generalize Iso.w1 y s = f1 at *
  generalize Iso.w1 (y + 1) s = f2 at *
  have hg := hg.drewN nq
  have e14 : (w1.drewN nq).cell? ⟨w.heap.size, 14, none⟩ = some (.slice V.week.A V.week.n V.week.c) := gr_cell ((Gr.refl w1).drewN nq) e14
  clear e7
  generalize w1.drewN nq = W at *
  by_cases h1 : f1 ≤ n
  case neg =>
    as_aux_lemma =>
    have HE : Hid (false = q) := Lib.hid (by rw [HI.out, decide_eq_false h1]; rfl)
    have h2 : decide (f1 ≤ n) = false := decide_eq_false h1
    clear HI cC
    go_wp2
    go_ret
    exact ⟨ret_bool HE.out, hg⟩
  by_cases h3 : n < f2
  case neg =>
    as_aux_lemma =>
    have HE : Hid (false = q) := Lib.hid (by rw [HI.out, decide_eq_false h3, Bool.and_false]; rfl)
    have h4 : decide (n < f2) = false := decide_eq_false h3
    clear HI cC
    go_wp2
    go_ret
    exact ⟨ret_bool HE.out, hg⟩
  as_aux_lemma =>
    have HE : Hid (Mc.cntB V.r.week ((n - f1) / 7 + 1) ((f2 - f1) / 7) = q) := Lib.hid (by rw [HI.out, decide_eq_true h1, decide_eq_true h3]; rfl)
    have t1 := div7 (a := n - f1) (by omega)
    have t2 := div7 (a := f2 - f1) (by omega)
    have b1 : 0 ≤ (n - f1) / 7 ∧ (n - f1) / 7 ≤ 1000 := by omega
    have b2 : 0 ≤ (f2 - f1) / 7 ∧ (f2 - f1) / 7 ≤ 1000 := by omega
    have c := cC ((n - f1) / 7 + 1) ((f2 - f1) / 7) W hg (by omega) (by omega) (by omega) (by omega)
    clear HI cC st
    generalize Mc.cntB V.r.week ((n - f1) / 7 + 1) ((f2 - f1) / 7) = z at *
    generalize (n - f1) / 7 = i1 at *
    generalize (f2 - f1) / 7 = i2 at *
    go_wp2_with (go_at_call 30; refine c.mono ?_; rintro e w' ⟨rfl, rfl⟩)
    go_ret
    exact ⟨ret_bool HE.out, hg⟩
end Go.Proofs.YtmbmkldcedkbmaaGreat
