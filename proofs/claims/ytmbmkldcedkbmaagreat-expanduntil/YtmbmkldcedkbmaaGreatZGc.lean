/- The texts MtPl, MtWd, one behind the other. -/
import Derived.Test.YtmbmkldcedkbmaaGreatZGa
import Derived.Test.YtmbmkldcedkbmaaGreatZB
import Derived.Test.YtmbmkldcedkbmaaGreatZE
import Derived.BigQuiet
import Derived.Test.YtmbmkldcedkbmaaGreatZO
namespace Go.Proofs.YtmbmkldcedkbmaaGreat
open Go.RowKit

set_option maxHeartbeats 1000000 in
theorem counted_any (p e n : Int) (w : World) (p1 : -100000 ≤ p) (p2 : p ≤ 100000) (e1 : -100000 ≤ e) (e2 : e ≤ 100000) :
    Calls Tryz.prog 148 #[.agg #[.int .i64 p, .int .i64 e], .int .i64 n] w fun r w' => r = .returned (.bool (Mc.cnt1 p e n)) ∧ Gr w w' := by
  cases h1 : (n == p)
  · have HE : Hid ((n == p - e - 1) = Mc.cnt1 p e n) := by
      show _ = _
      unfold Mc.cnt1
      rw [h1]; rfl
    go_enter Tryz.func148, Tryz.ntmps148
    go_wp2
    go_ret
    exact ⟨ret_bool HE.out, (Gr.refl _).allocO _⟩
  · have HE : Hid (true = Mc.cnt1 p e n) := by
      show _ = _
      unfold Mc.cnt1
      rw [h1]; rfl
    go_enter Tryz.func148, Tryz.ntmps148
    go_wp2
    go_ret
    exact ⟨ret_bool HE.out, (Gr.refl _).allocO _⟩
/- a box of two cells, behind a call that turns nothing below it; all of it set -/
theorem box2 {w w1 : World} {a b : Value} {t : TypeId} (hb : Gr (w.alloc (.cells #[a, b] t)) w1) : w1.cell? ⟨w.heap.size, 0, none⟩ = some a ∧ w1.cell? ⟨w.heap.size, 1, none⟩ = some b := by
  refine ⟨?_, ?_⟩ <;> (rw [hb.below.cell (by simp)]; simp)
theorem box_pair {W : World} {b : Nat} {a1 a2 : Value} (c0 : W.cell? ⟨b, 0, none⟩ = some a1) (c1 : W.cell? ⟨b, 1, none⟩ = some a2) (x1 x2 : Value) :
    ((W.setCell ⟨b, 0, none⟩ x1).setCell ⟨b, 1, none⟩ x2).cell? ⟨b, 0, none⟩ = some x1 ∧ ((W.setCell ⟨b, 0, none⟩ x1).setCell ⟨b, 1, none⟩ x2).cell? ⟨b, 1, none⟩ = some x2 := by
  refine ⟨?_, ?_⟩
  · rw [World.cell?_setCell_other (h := by simp)]; exact World.cell?_setCell_same _ _ _ c0
  · refine World.cell?_setCell_same _ _ _ (u := a2) ?_
    rw [World.cell?_setCell_other (h := by simp)]; exact c1
theorem gr_pair {w W : World} {b : Nat} (h : Gr w W) (hb : w.heap.size ≤ b) (x1 x2 : Value) : Gr w ((W.setCell ⟨b, 0, none⟩ x1).setCell ⟨b, 1, none⟩ x2) :=
  ⟨(h.below.setCell (p := ⟨b, 0, none⟩) hb x1).setCell (p := ⟨b, 1, none⟩) hb x2⟩
theorem div7 {a : Int} (h : 0 ≤ a) : a.tdiv 7 = a / 7 := Int.tdiv_eq_ediv_of_nonneg h
set_option maxHeartbeats 1000000 in
theorem among_any (p e : Int) (w : World) (p1 : 1 ≤ p) (p2 : p ≤ e) (e2 : e ≤ 100000) :
    Calls Tryz.prog 151 #[.agg #[.int .i64 p, .int .i64 e]] w fun r w' => r = .returned (.agg #[.int .i64 ((p - 1) / 7 + 1), .int .i64 ((p - 1) / 7 + 1 + (e - p) / 7)]) ∧ Gr w w' := by
  have q1 := div7 (a := p - 1) (by omega)
  have q2 := div7 (a := e - p) (by omega)
  have b1 : 0 ≤ (p - 1) / 7 ∧ (p - 1) / 7 ≤ 100000 := by omega
  have b2 : 0 ≤ (e - p) / 7 ∧ (e - p) / 7 ≤ 100000 := by omega
  have hg : Gr w (w.alloc (.cells #[.int .i64 p, .int .i64 e] 133)) := (Gr.refl w).allocO _
  go_enter Tryz.func151, Tryz.ntmps151
  go_wp2
  go_quiet (fail)
  clear q1 q2
  have hb := (Gr.refl ((w.alloc (.cells #[.int .i64 p, .int .i64 e] 133)).alloc (.cells #[.int .i64 0, .int .i64 0] 133))).drewN nq
  have hsz : (w.alloc (.cells #[.int .i64 p, .int .i64 e] 133)).heap.size = w.heap.size + 1 := by simp
  obtain ⟨c0, c1⟩ := box2 hb
  have f0 := box_free hb 0
  have f1 := box_free hb 1
  have hg := (hg.trans ((Gr.refl _).alloc #[.int .i64 0, .int .i64 0] 133)).trans hb
  rw [hsz] at c0 c1 f0 f1
  generalize ((w.alloc (.cells #[.int .i64 p, .int .i64 e] 133)).alloc (.cells #[.int .i64 0, .int .i64 0] 133)).drewN nq = W at *
  clear hb hsz
  go_wp2
  obtain ⟨c0, c1⟩ := box_pair c0 c1 (.int .i64 ((p - 1) / 7 + 1)) (.int .i64 ((p - 1) / 7 + 1 + (e - p) / 7))
  have hg := gr_pair hg (b := w.heap.size + 1) (by omega) (.int .i64 ((p - 1) / 7 + 1)) (.int .i64 ((p - 1) / 7 + 1 + (e - p) / 7))
  generalize World.setCell _ _ _ = W at *
  exact bodyPost_ret (v := .agg #[.int .i64 ((p - 1) / 7 + 1), .int .i64 ((p - 1) / 7 + 1 + (e - p) / 7)]) (by simp [results, Tryz.results151, go_sem, c0, c1]) rfl ⟨rfl, hg⟩
set_option maxHeartbeats 1000000 in
theorem inyear14_any (n : Int) (w : World) (h : Cal.dayB n = true) :
    Calls Tryz.prog 128 #[.int .i64 n, .agg #[.int .i64 (Cal.yr n), .int .i64 (Cal.mon n), .int .i64 (Cal.dom n)]] w fun r w' => r = .returned (.agg #[.int .i64 (n - Cal.dby (Cal.yr n)), .int .i64 (Mc.ylen (Cal.yr n))]) ∧ Gr w w' := by
  obtain ⟨n1, n2⟩ := Cal.dayB_iff.1 h
  have yb := Cal.yr_bd n1 n2
  have lb := Cal.dby_bd (a := Cal.yr n) (by omega) (by omega)
  have lb2 := Cal.dby_bd (a := Cal.yr n + 1) (by omega) (by omega)
  have HO : Hid (Cal.okB (Cal.yr n) 12 31 = true) := Lib.hid (by rw [Cal.okB_iff, dim_31 (by omega)]; omega)
  have HD : Hid (Cal.num (Cal.yr n) 12 31 = Cal.dby (Cal.yr n + 1)) := Lib.hid (by rw [← Mc.num_dec, dim_31 (by omega)])
  have HE : Hid (n - Cal.dby (Cal.yr n) + Cal.dby (Cal.yr n + 1) - n = Mc.ylen (Cal.yr n)) := by
    show _ = _
    unfold Mc.ylen; omega
  have H := Lib.hid h; clear h
  obtain ⟨y, hy⟩ : ∃ y, Cal.yr n = y := ⟨_, rfl⟩
  rw [hy] at yb lb lb2 HO HD HE ⊢
  have HY := Lib.hid hy
  clear hy
  generalize Cal.mon n = m at *
  generalize Cal.dom n = d at *
  have hg : Gr w (w.alloc (.cells #[.int .i64 y, .int .i64 m, .int .i64 d] 85)) := (Gr.refl w).allocO _
  have hsz : (w.alloc (.cells #[.int .i64 y, .int .i64 m, .int .i64 d] 85)).heap.size = w.heap.size + 1 := by simp
  have hgB : Gr (w.alloc (.cells #[.int .i64 y, .int .i64 m, .int .i64 d] 85)) ((w.alloc (.cells #[.int .i64 y, .int .i64 m, .int .i64 d] 85)).alloc (.cells #[.int .i64 0, .int .i64 0] 133)) := (Gr.refl _).alloc _ _
  have cI := fun w' => inyear_yes n w' H.out
  rw [HY.out] at cI
  clear HY H
  go_enter Tryz.func128, Tryz.ntmps128
  go_wp2_with fail
  refine (cI _).mono ?_
  rintro e w' ⟨rfl, rfl⟩
  go_wp2_with fail
  refine (day_yes _ _ _ _ HO.out).mono ?_
  rintro e w1 ⟨rfl, hb⟩
  rw [HD.out]
  have hg := (hg.trans hgB).trans hb
  obtain ⟨c0, c1⟩ := box2 hb
  have f0 := box_free hb 0
  have f1 := box_free hb 1
  rw [hsz] at c0 c1 f0 f1
  clear hb hsz hgB
  go_wp2
  rw [HE.out]
  obtain ⟨c0, c1⟩ := box_pair c0 c1 (.int .i64 (n - Cal.dby y)) (.int .i64 (Mc.ylen y))
  have hg := gr_pair hg (b := w.heap.size + 1) (by omega) (.int .i64 (n - Cal.dby y)) (.int .i64 (Mc.ylen y))
  generalize World.setCell _ _ _ = W at *
  exact bodyPost_ret (v := .agg #[.int .i64 (n - Cal.dby y), .int .i64 (Mc.ylen y)]) (by simp [results, Tryz.results128, go_sem, c0, c1]) rfl ⟨rfl, hg⟩
set_option maxHeartbeats 1000000 in
theorem index_any (A : Option Addr) (n c : Nat) (xs : List Int) (x : Int) (w : World) (hP : Nums w w.heap.size A n xs) (hn : n ≤ 140737488355328) :
    Calls Tryz.prog 126 #[.slice A n c, .int .i64 x] w fun e w' => ∃ v : Int, e = .returned (.int .i64 v) ∧ decide (0 ≤ v) = Mc.hasB xs x ∧ w = w' := by
  have HL := Lib.hid hP.1
  go_enter Tryz.func126, Tryz.ntmps126
  go_wp2
  go_loopg [8] n (fun g v wx => ∃ k : Nat, v = .int .i64 (k : Int) ∧ k + g = n ∧ w = wx ∧ Hid (Mc.hasB (xs.take k) x = false))
  case atStart => exact ⟨0, rfl, by omega, rfl, Lib.hid (by simp [Mc.hasB])⟩
  case round =>
    obtain ⟨k, rfl, hkg, rfl, HN⟩ := hrel
    have HG := Lib.hid hkg
    clear hkg
    by_cases hk : k < n
    · obtain ⟨ad, hk', rfl, hbl, hc⟩ := hP.at_ hk
      have HT := Lib.hid (List.take_succ_eq_append_getElem hk')
      have HM := Lib.hid (List.getElem_mem hk')
      cases hq : (x == xs[k])
      · have HS : Hid (Mc.hasB (xs.take (k + 1)) x = false) := Lib.hid (by
          rw [HT.out]
          have h1 := HN.out
          unfold Mc.hasB at h1 ⊢
          rw [List.contains_eq_any_beq] at h1 ⊢
          rw [List.any_append, h1, List.any_cons, List.any_nil, hq]; rfl)
        generalize xs[k] = a at *
        go_wp2
        go_roundg (n - (k + 1))
        case measure => have := HG.out; omega
        case rel => exact ⟨k + 1, by go_num, by omega, rfl, HS⟩
      · have HQ : Hid (Mc.hasB xs x = true) := Lib.hid (by
          unfold Mc.hasB
          rw [List.contains_iff_mem]
          rw [beq_iff_eq.1 hq]; exact HM.out)
        generalize xs[k] = a at *
        go_wp2
        go_ret
        exact ⟨_, rfl, by rw [HQ.out]; simp, rfl⟩
    · obtain rfl : k = n := by have := HG.out; omega
      have HA : Hid (Mc.hasB xs x = false) := Lib.hid (by
        have := HN.out
        rwa [List.take_of_length_le (by rw [HL.out]; exact Nat.le_refl _)] at this)
      go_wp2
      go_ret
      exact ⟨_, rfl, by rw [HA.out]; rfl, rfl⟩
set_option maxHeartbeats 1000000 in
theorem contains_any (A : Option Addr) (n c : Nat) (xs : List Int) (x : Int) (w : World) (hP : Nums w w.heap.size A n xs) (hn : n ≤ 140737488355328) :
    Calls Tryz.prog 107 #[.slice A n c, .int .i64 x] w fun e w' => e = .returned (.bool (Mc.hasB xs x)) ∧ w = w' := by
  have cI := fun w hP => index_any A n c xs x w hP hn
  go_enter Tryz.func107, Tryz.ntmps107
  go_wp2_with fail
  refine (cI _ hP).mono ?_
  rintro e w1 ⟨v, rfl, hv, rfl⟩
  have HE := Lib.hid hv
  clear hv
  go_wp2
  go_ret
  exact ⟨ret_bool HE.out, rfl⟩
set_option maxRecDepth 100000 in
set_option maxHeartbeats 1000000 in
theorem cidx_any (p e : Int) (A : Option Addr) (n c : Nat) (xs : List Int) (w : World) (hP : Nums w w.heap.size A n xs) (hn : n ≤ 140737488355328) (p1 : -100000 ≤ p) (p2 : p ≤ 100000) (e1 : -100000 ≤ e) (e2 : e ≤ 100000) :
    Calls Tryz.prog 160 #[.slice A n c, .func (.func 148) #[.agg #[.int .i64 p, .int .i64 e]] #[]] w fun r w' => ∃ v : Int, r = .returned (.int .i64 v) ∧ decide (0 ≤ v) = xs.any (Mc.cnt1 p e) ∧ Gr w w' := by
  have HL := Lib.hid hP.1
  have cC := fun n w => counted_any p e n w p1 p2 e1 e2
  clear p1 p2 e1 e2
  go_enter Tryz.func160, Tryz.ntmps160
  go_wp2
  go_loopg [8] n (fun g v wx => ∃ k : Nat, v = .int .i64 (k : Int) ∧ k + g = n ∧ Gr w wx ∧ Hid ((xs.take k).any (Mc.cnt1 p e) = false))
  case atStart => exact ⟨0, rfl, by omega, Gr.refl _, Lib.hid (by simp)⟩
  case round =>
    obtain ⟨k, rfl, hkg, hg, HN⟩ := hrel
    have HG := Lib.hid hkg
    clear hkg
    by_cases hk : k < n
    · obtain ⟨ad, hk', rfl, hbl, hc0⟩ := hP.at_ hk
      have d0 := (hg.below.cell (p := ad.add k) (by rw [add_block]; exact hbl)).trans hc0
      have c1 := cC xs[k] wr
      have HT := Lib.hid (List.take_succ_eq_append_getElem hk')
      have HM := Lib.hid (List.getElem_mem hk')
      cases hq : Mc.cnt1 p e xs[k]
      · rw [hq] at c1
        have HS : Hid ((xs.take (k + 1)).any (Mc.cnt1 p e) = false) := Lib.hid (by rw [HT.out, List.any_append, HN.out, List.any_cons, List.any_nil, hq]; rfl)
        clear hq hc0 hP
        generalize xs[k] = a at *
        go_wp2_with (go_at_call 148; refine c1.mono ?_; rintro e w' ⟨rfl, hg2⟩)
        go_roundg (n - (k + 1))
        case measure => have := HG.out; omega
        case rel => exact ⟨k + 1, by go_num, by omega, hg.trans hg2, HS⟩
      · rw [hq] at c1
        have HQ : Hid (xs.any (Mc.cnt1 p e) = true) := Lib.hid (List.any_eq_true.2 ⟨_, HM.out, hq⟩)
        clear hq hc0 hP
        generalize xs[k] = a at *
        go_wp2_with (go_at_call 148; refine c1.mono ?_; rintro e w' ⟨rfl, hg2⟩)
        go_ret
        exact ⟨_, rfl, by rw [HQ.out]; simp, hg.trans hg2⟩
    · obtain rfl : k = n := by have := HG.out; omega
      have HA : Hid (xs.any (Mc.cnt1 p e) = false) := Lib.hid (by
        have := HN.out
        rwa [List.take_of_length_le (by rw [HL.out]; exact Nat.le_refl _)] at this)
      go_wp2
      go_ret
      exact ⟨_, rfl, by rw [HA.out]; rfl, hg⟩
set_option maxHeartbeats 1000000 in
theorem ccont_any (p e : Int) (A : Option Addr) (n c : Nat) (xs : List Int) (w : World) (hP : Nums w w.heap.size A n xs) (hn : n ≤ 140737488355328) (p1 : -100000 ≤ p) (p2 : p ≤ 100000) (e1 : -100000 ≤ e) (e2 : e ≤ 100000) :
    Calls Tryz.prog 147 #[.slice A n c, .func (.func 148) #[.agg #[.int .i64 p, .int .i64 e]] #[]] w fun r w' => r = .returned (.bool (Mc.cntB xs p e)) ∧ Gr w w' := by
  rw [← Mc.any_cnt]
  have cI := fun w hP => cidx_any p e A n c xs w hP hn p1 p2 e1 e2
  go_enter Tryz.func147, Tryz.ntmps147
  go_wp2_with fail
  refine (cI _ hP).mono ?_
  rintro e w1 ⟨v, rfl, hv, hg⟩
  have HE := Lib.hid hv
  clear hv
  go_wp2
  go_ret
  exact ⟨ret_bool HE.out, hg⟩
set_option maxHeartbeats 1000000 in
theorem listed_any (p e : Int) (A : Option Addr) (n c : Nat) (xs : List Int) (w : World) (hP : Nums w w.heap.size A n xs) (hn : n ≤ 140737488355328) (p1 : -100000 ≤ p) (p2 : p ≤ 100000) (e1 : -100000 ≤ e) (e2 : e ≤ 100000) :
    Calls Tryz.prog 129 #[.agg #[.int .i64 p, .int .i64 e], .slice A n c] w fun r w' => r = .returned (.bool (Mc.lstd xs p e)) ∧ Gr w w' := by
  have hg : Gr w (w.alloc (.cells #[.int .i64 p, .int .i64 e] 133)) := (Gr.refl w).allocO _
  have cC := fun w' (h : Gr w w') => ccont_any p e A n c xs w' (hP.gr h) hn p1 p2 e1 e2
  have hl := hP.1
  clear hP p1 p2 e1 e2
  by_cases h0 : n = 0
  · subst h0
    have HE : Hid (true = Mc.lstd xs p e) := by
      show _ = _
      unfold Mc.lstd
      rw [List.eq_nil_of_length_eq_zero hl]; rfl
    clear cC hl
    go_enter Tryz.func129, Tryz.ntmps129
    go_wp2
    go_ret
    exact ⟨ret_bool HE.out, hg⟩
  · have HE : Hid (Mc.cntB xs p e = Mc.lstd xs p e) := by
      show _ = _
      unfold Mc.lstd
      cases xs with
      | nil => exact absurd hl.symm h0
      | cons _ _ => rfl
    have hn0 : ((n : Int) == 0) = false := by rw [beq_eq_false_iff_ne]; omega
    clear hl
    go_enter Tryz.func129, Tryz.ntmps129
    go_wp2_with (go_at_call 147; refine (cC _ hg).mono ?_; rintro e w' ⟨rfl, hg2⟩)
    go_ret
    exact ⟨ret_bool HE.out, hg.trans hg2⟩
end Go.Proofs.YtmbmkldcedkbmaaGreat
namespace Go.Proofs.YtmbmkldcedkbmaaGreat
open Go.RowKit

namespace Mc
def wdB (wd a e : Int) (p : Int × Int) : Bool := p.2 == wd && (p.1 == 0 || cnt1 a e p.1)
end Mc
set_option maxRecDepth 100000 in
set_option maxHeartbeats 2000000 in
theorem wdf_any (b4 b7 : Nat) (wd a e n d : Int) (w : World) (h4 : w.cell? ⟨b4, 0, none⟩ = some (.int .i64 wd)) (h70 : w.cell? ⟨b7, 0, none⟩ = some (.int .i64 a)) (h71 : w.cell? ⟨b7, 1, none⟩ = some (.int .i64 e))
    (p1 : -100000 ≤ a) (p2 : a ≤ 100000) (e1 : -100000 ≤ e) (e2 : e ≤ 100000) :
    Calls Tryz.prog 152 #[.agg #[.int .i64 n, .int .i64 d], .pointer (some ⟨b4, 0, none⟩), .pointer (some ⟨b7, 0, none⟩)] w fun r w' => r = .returned (.bool (Mc.wdB wd a e (n, d))) ∧ Gr w w' := by
  have hg : Gr w (w.alloc (.cells #[.int .i64 n, .int .i64 d] 64)) := (Gr.refl w).allocO _
  have cC := fun w' => counted_any a e n w' p1 p2 e1 e2
  have h4 := gr_cell hg h4
  have h70 := gr_cell hg h70
  have h71 := gr_cell hg h71
  have HE : Hid (Mc.wdB wd a e (n, d) = (d == wd && (n == 0 || Mc.cnt1 a e n))) := rfl
  obtain ⟨q, hq⟩ : ∃ q, Mc.wdB wd a e (n, d) = q := ⟨_, rfl⟩
  rw [hq] at HE ⊢
  clear hq p1 p2 e1 e2
  generalize Mc.cnt1 a e n = z at *
  cases hd : (d == wd)
  · have HE : Hid (false = q) := Lib.hid (by have := HE.out; rw [hd] at this; exact this.symm)
    go_enter Tryz.func152, Tryz.ntmps152
    go_wp2
    go_ret
    exact ⟨ret_bool HE.out, hg⟩
  · cases hn : (n == 0)
    · have HE : Hid (z = q) := Lib.hid (by have := HE.out; rw [hd, hn] at this; exact this.symm)
      go_enter Tryz.func152, Tryz.ntmps152
      go_wp2_with (go_at_call 148; refine (cC _).mono ?_; rintro e w' ⟨rfl, hg2⟩)
      go_ret
      exact ⟨ret_bool HE.out, hg.trans hg2⟩
    · have HE : Hid (true = q) := Lib.hid (by have := HE.out; rw [hd, hn] at this; exact this.symm)
      go_enter Tryz.func152, Tryz.ntmps152
      go_wp2
      go_ret
      exact ⟨ret_bool HE.out, hg⟩
set_option maxRecDepth 100000 in
set_option maxHeartbeats 2000000 in
theorem wdidx_any (b4 b7 : Nat) (wd a e : Int) (A : Option Addr) (n c : Nat) (ps : List (Int × Int)) (w : World) (hP : Days w w.heap.size A n ps) (hn : n ≤ 140737488355328)
    (h4 : w.cell? ⟨b4, 0, none⟩ = some (.int .i64 wd)) (h70 : w.cell? ⟨b7, 0, none⟩ = some (.int .i64 a)) (h71 : w.cell? ⟨b7, 1, none⟩ = some (.int .i64 e))
    (p1 : -100000 ≤ a) (p2 : a ≤ 100000) (e1 : -100000 ≤ e) (e2 : e ≤ 100000) :
    Calls Tryz.prog 123 #[.slice A n c, .func (.func 152) #[] #[.pointer (some ⟨b4, 0, none⟩), .pointer (some ⟨b7, 0, none⟩)]] w fun r w' => ∃ v : Int, r = .returned (.int .i64 v) ∧ decide (0 ≤ v) = ps.any (Mc.wdB wd a e) ∧ Gr w w' := by
  have HL := Lib.hid hP.1
  have cC := fun n d w' (h : Gr w w') => wdf_any b4 b7 wd a e n d w' (gr_cell h h4) (gr_cell h h70) (gr_cell h h71) p1 p2 e1 e2
  clear p1 p2 e1 e2 h4 h70 h71
  go_enter Tryz.func123, Tryz.ntmps123
  go_wp2
  go_loopg [8] n (fun g v wx => ∃ k : Nat, v = .int .i64 (k : Int) ∧ k + g = n ∧ Gr w wx ∧ Hid ((ps.take k).any (Mc.wdB wd a e) = false))
  case atStart => exact ⟨0, rfl, by omega, Gr.refl _, Lib.hid (by simp)⟩
  case round =>
    obtain ⟨k, rfl, hkg, hg, HN⟩ := hrel
    have HG := Lib.hid hkg
    clear hkg
    by_cases hk : k < n
    · obtain ⟨ad, hk', rfl, hbl, hc0, hc1⟩ := hP.at_ hk
      have d0 := (hg.below.cell (p := ad.add (k * 2)) (by rw [add_block]; exact hbl)).trans hc0
      have d1 := (hg.below.cell (p := ⟨(ad.add (k * 2)).block, (ad.add (k * 2)).off + 1, none⟩) (by show (ad.add (k * 2)).block < _; rw [add_block]; exact hbl)).trans hc1
      dsimp only [dv1, dv2] at d0 d1
      have c1 := cC ps[k].1 ps[k].2 wr hg
      have HT := Lib.hid (List.take_succ_eq_append_getElem hk')
      have HM := Lib.hid (List.getElem_mem hk')
      cases hq : Mc.wdB wd a e (ps[k].1, ps[k].2)
      · rw [hq] at c1
        have HS : Hid ((ps.take (k + 1)).any (Mc.wdB wd a e) = false) := Lib.hid (by rw [HT.out, List.any_append, HN.out, List.any_cons, List.any_nil, show Mc.wdB wd a e ps[k] = false from hq]; rfl)
        clear hq hc0 hc1 hP
        generalize ps[k].1 = x at *
        generalize ps[k].2 = y at *
        go_wp2_with (go_at_call 152; refine c1.mono ?_; rintro e w' ⟨rfl, hg2⟩)
        go_roundg (n - (k + 1))
        case measure => have := HG.out; omega
        case rel => exact ⟨k + 1, by go_num, by omega, hg.trans hg2, HS⟩
      · rw [hq] at c1
        have HQ : Hid (ps.any (Mc.wdB wd a e) = true) := Lib.hid (List.any_eq_true.2 ⟨_, HM.out, hq⟩)
        clear hq hc0 hc1 hP
        generalize ps[k].1 = x at *
        generalize ps[k].2 = y at *
        go_wp2_with (go_at_call 152; refine c1.mono ?_; rintro e w' ⟨rfl, hg2⟩)
        go_ret
        exact ⟨_, rfl, by rw [HQ.out]; simp, hg.trans hg2⟩
    · obtain rfl : k = n := by have := HG.out; omega
      have HA : Hid (ps.any (Mc.wdB wd a e) = false) := Lib.hid (by
        have := HN.out
        rwa [List.take_of_length_le (by rw [HL.out]; exact Nat.le_refl _)] at this)
      go_wp2
      go_ret
      exact ⟨_, rfl, by rw [HA.out]; rfl, hg⟩
set_option maxHeartbeats 1000000 in
theorem wdcont_any (b4 b7 : Nat) (wd a e : Int) (A : Option Addr) (n c : Nat) (ps : List (Int × Int)) (w : World) (hP : Days w w.heap.size A n ps) (hn : n ≤ 140737488355328)
    (h4 : w.cell? ⟨b4, 0, none⟩ = some (.int .i64 wd)) (h70 : w.cell? ⟨b7, 0, none⟩ = some (.int .i64 a)) (h71 : w.cell? ⟨b7, 1, none⟩ = some (.int .i64 e))
    (p1 : -100000 ≤ a) (p2 : a ≤ 100000) (e1 : -100000 ≤ e) (e2 : e ≤ 100000) :
    Calls Tryz.prog 99 #[.slice A n c, .func (.func 152) #[] #[.pointer (some ⟨b4, 0, none⟩), .pointer (some ⟨b7, 0, none⟩)]] w fun r w' => r = .returned (.bool (ps.any (Mc.wdB wd a e))) ∧ Gr w w' := by
  have cI := wdidx_any b4 b7 wd a e A n c ps w hP hn h4 h70 h71 p1 p2 e1 e2
  go_enter Tryz.func99, Tryz.ntmps99
  go_wp2_with fail
  refine cI.mono ?_
  rintro e w1 ⟨v, rfl, hv, hg⟩
  have HE := Lib.hid hv
  clear hv
  go_wp2
  go_ret
  exact ⟨ret_bool HE.out, hg⟩
set_option maxRecDepth 100000 in
set_option maxHeartbeats 2000000 in
theorem onwd_any (p e wd : Int) (A : Option Addr) (n c : Nat) (ps : List (Int × Int)) (w : World) (hP : Days w w.heap.size A n ps) (hn : n ≤ 140737488355328) (p1 : 1 ≤ p) (p2 : p ≤ e) (e2 : e ≤ 100000) :
    Calls Tryz.prog 131 #[.slice A n c, .int .i64 wd, .agg #[.int .i64 p, .int .i64 e]] w fun r w' => r = .returned (.bool (ps.isEmpty || ps.any (Mc.wdB wd ((p - 1) / 7 + 1) ((p - 1) / 7 + 1 + (e - p) / 7)))) ∧ Gr w w' := by
  have hgA : Gr w (w.alloc (.cells #[.int .i64 wd] 3)) := (Gr.refl w).allocO _
  have hgB : Gr w ((w.alloc (.cells #[.int .i64 wd] 3)).alloc (.cells #[.int .i64 p, .int .i64 e] 133)) := hgA.allocO _
  have hw : ((w.alloc (.cells #[.int .i64 wd] 3)).alloc (.cells #[.int .i64 p, .int .i64 e] 133)).cell? ⟨w.heap.size, 0, none⟩ = some (.int .i64 wd) := by simp
  have b1 : 0 ≤ (p - 1) / 7 ∧ (p - 1) / 7 ≤ 20000 := by omega
  have b2 : 0 ≤ (e - p) / 7 ∧ (e - p) / 7 ≤ 20000 := by omega
  have cA := fun w' => among_any p e w' p1 p2 e2
  have cC := fun w' b7 (h : Gr w w') h4 h70 h71 => wdcont_any w.heap.size b7 wd ((p - 1) / 7 + 1) ((p - 1) / 7 + 1 + (e - p) / 7) A n c ps w' (hP.gr h) hn h4 h70 h71 (by omega) (by omega) (by omega) (by omega)
  have hl := hP.1
  clear hP
  generalize (p - 1) / 7 = x at *
  generalize (e - p) / 7 = y at *
  obtain ⟨q, hq⟩ : ∃ q, ps.any (Mc.wdB wd (x + 1) (x + 1 + y)) = q := ⟨_, rfl⟩
  rw [hq] at cC ⊢
  clear hq
  have HW := Lib.hid hw
  clear hw
  by_cases h0 : n = 0
  · subst h0
    have HE : Hid (true = (ps.isEmpty || q)) := Lib.hid (by rw [List.eq_nil_of_length_eq_zero hl]; rfl)
    clear cC hl
    go_enter Tryz.func131, Tryz.ntmps131
    go_wp2_with fail
    refine (cA _).mono ?_
    rintro e w1 ⟨rfl, hg1⟩
    go_wp2
    go_ret
    exact ⟨ret_bool HE.out, (hgB.trans hg1).allocO _⟩
  · have HE : Hid (q = (ps.isEmpty || q)) := Lib.hid (by
      cases ps with
      | nil => exact absurd hl.symm h0
      | cons _ _ => rfl)
    have hn0 : ((n : Int) == 0) = false := by rw [beq_eq_false_iff_ne]; omega
    clear hl
    go_enter Tryz.func131, Tryz.ntmps131
    go_wp2_with fail
    refine (cA _).mono ?_
    rintro e w1 ⟨rfl, hg1⟩
    have hw := gr_cell hg1 HW.out
    have hgC : Gr w1 (w1.alloc (.cells #[.int .i64 (x + 1), .int .i64 (x + 1 + y)] 133)) := (Gr.refl w1).allocO _
    obtain ⟨k0, k1⟩ := box2 (Gr.refl (w1.alloc (.cells #[.int .i64 (x + 1), .int .i64 (x + 1 + y)] 133)))
    have hw := gr_cell hgC hw
    have hg := (hgB.trans hg1).trans hgC
    go_wp2_with (go_at_call 99; refine (cC _ _ hg hw (by assumption) (by assumption)).mono ?_; rintro e w' ⟨rfl, hg2⟩)
    go_ret
    exact ⟨ret_bool HE.out, hg.trans hg2⟩
end Go.Proofs.YtmbmkldcedkbmaaGreat
