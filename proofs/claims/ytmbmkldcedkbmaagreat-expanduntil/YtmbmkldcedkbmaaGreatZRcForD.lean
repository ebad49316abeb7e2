/- What recur.formedList returns at weekdays. -/
import Derived.Test.YtmbmkldcedkbmaaGreatZRcForI
import Derived.Test.YtmbmkldcedkbmaaGreatZE
namespace Go.Proofs.YtmbmkldcedkbmaaGreat
open Go.RowKit

set_option maxRecDepth 100000 in
set_option maxHeartbeats 4000000 in
theorem formedD_any (A : Option Addr) (n c : Nat) (ps : List (Int × Int)) (w : World) (hN : Days w w.heap.size A n ps) :
    Calls Tryz.prog 65 #[.slice A n c, .func (.func 66) #[] #[], .func (.func 67) #[] #[]] w fun e w' => e = .returned (.bool (Rm.fineD ps)) ∧ Gr w w' := by
  obtain ⟨q, hq⟩ : ∃ q, Rm.fineD ps = q := ⟨_, rfl⟩
  rw [hq]
  have HQ := Lib.hid hq
  have HL := Lib.hid hN.1
  clear hq
  by_cases h40 : n ≤ 40
  · go_enter Tryz.func65, Tryz.ntmps65
    go_wp2
    go_loopg [14] n (fun g v wx => ∃ k : Nat, v = .int .i64 (k : Int) ∧ k + g = n ∧ Gr w wx ∧ Hid (∀ (j : Nat) a, j < k → ps[j]? = some a → Rm.mayD a = true) ∧ Hid (∀ (j : Nat) a b, j + 1 < k → ps[j]? = some a → ps[j + 1]? = some b → Rm.bef a b = true))
    case atStart => exact ⟨0, rfl, by omega, Gr.refl _, Lib.hid (fun j a h => by omega), Lib.hid (fun j a b h => by omega)⟩
    case round =>
      obtain ⟨k, rfl, hkg, hg, H1, H2⟩ := hrel
      have HG := Lib.hid hkg
      clear hkg
      by_cases hk : k < n
      · obtain ⟨ad, hk', rfl, hbl, hc0, hc1⟩ := hN.at_ hk
        have hd0 := (hg.below.cell (p := ad.add (k * 2)) (by rw [add_block]; exact hbl)).trans hc0
        have hd1 := (hg.below.cell (p := ⟨(ad.add (k * 2)).block, (ad.add (k * 2)).off + 1, none⟩) (by show (ad.add (k * 2)).block < _; rw [add_block]; exact hbl)).trans hc1
        dsimp only [dv1, dv2] at hd0 hd1
        have HX := Lib.hid (List.getElem?_eq_getElem hk')
        have hkn : (k : Int) < (n : Int) := by omega
        have hg0 : Gr wr (wr.alloc (.cells #[.int .i64 ps[k].1, .int .i64 ps[k].2] 64)) := (Gr.refl wr).allocO _
        have hb0 : (wr.alloc (.cells #[.int .i64 ps[k].1, .int .i64 ps[k].2] 64)).cell? ⟨wr.heap.size, 0, none⟩ = some (.int .i64 ps[k].1) := by simp
        have hb1 : (wr.alloc (.cells #[.int .i64 ps[k].1, .int .i64 ps[k].2] 64)).cell? ⟨wr.heap.size, 1, none⟩ = some (.int .i64 ps[k].2) := by simp
        have cA := fun w => allowsD_any ps[k].1 ps[k].2 w
        by_cases ha : Rm.mayD ps[k] = true
        · have ha2 : Rm.mayD (ps[k].1, ps[k].2) = true := ha
          rw [ha2] at cA
          have HA := Lib.hid ha
          by_cases h0 : k = 0
          · subst h0
            clear ha ha2 hc0 hc1 hN
            have e0 : wr.cell? ad = some (.int .i64 ps[0].1) := hd0
            have e1 : wr.cell? ⟨ad.block, ad.off + 1, none⟩ = some (.int .i64 ps[0].2) := hd1
            clear hd0 hd1
            generalize ps[0].1 = x1 at *
            generalize ps[0].2 = x2 at *
            go_wp2_with fail
            generalize wr.alloc (.cells #[.int .i64 x1, .int .i64 x2] 64) = W at *
            have y0 := after_cell hb0
            have y1 := after_cell hb1
            refine wp_region_after (by kernel_rfl) (by kernel_rfl) ?_
            repeat (go_big_quiet_step (first | (go_at_call 66; exact qafter (cA _))))
            refine wpQuiet_nil ?_
            rintro _ ⟨⟨w6, hg6⟩, rfl⟩
            go_wp2
            go_roundg (n - 1)
            case measure => have := HG.out; omega
            case rel =>
              refine ⟨1, by go_num, by omega, (hg.trans hg0).trans hg6, Lib.hid (fun j a h e => ?_), Lib.hid (fun j a b h => by omega)⟩
              obtain rfl : j = 0 := by omega
              rw [HX.out] at e
              cases e
              exact HA.out
          · obtain ⟨m, rfl⟩ : ∃ m, k = m + 1 := ⟨k - 1, by omega⟩
            obtain ⟨ad2, hm', e2, _, hm0', hm1'⟩ := hN.at_ (k := m) (by omega)
            obtain rfl := Option.some.inj e2
            have hm0 := (hg0.below.cell (p := ad.add (m * 2)) (by rw [add_block]; exact Nat.lt_of_lt_of_le hbl hg.lt)).trans ((hg.below.cell (p := ad.add (m * 2)) (by rw [add_block]; exact hbl)).trans hm0')
            have hm1 := (hg0.below.cell (p := ⟨(ad.add (m * 2)).block, (ad.add (m * 2)).off + 1, none⟩) (by show (ad.add (m * 2)).block < _; rw [add_block]; exact Nat.lt_of_lt_of_le hbl hg.lt)).trans ((hg.below.cell (p := ⟨(ad.add (m * 2)).block, (ad.add (m * 2)).off + 1, none⟩) (by show (ad.add (m * 2)).block < _; rw [add_block]; exact hbl)).trans hm1')
            dsimp only [dv1, dv2] at hm0 hm1
            have HY := Lib.hid (List.getElem?_eq_getElem hm')
            have cC := fun w => cmpw_any ps[m] ps[m + 1] w
            have hmn : (m : Int) < (n : Int) := by omega
            by_cases hlt : Rm.bef ps[m] ps[m + 1] = true
            · have hcv : Rm.cmpW ps[m] ps[m + 1] < 0 := Rm.cmpW_neg.2 hlt
              have HT := Lib.hid hlt
              clear ha ha2 hc0 hc1 hm0' hm1' hN hlt e2
              generalize Rm.cmpW ps[m] ps[m + 1] = z at *
              generalize ps[m + 1].1 = x1 at *
              generalize ps[m + 1].2 = x2 at *
              generalize ps[m].1 = y1 at *
              generalize ps[m].2 = y2 at *
              go_wp2_with fail
              generalize wr.alloc (.cells #[.int .i64 x1, .int .i64 x2] 64) = W at *
              have v0 := after_cell hb0
              have v1 := after_cell hb1
              have v2 := after_cell hm0
              have v3 := after_cell hm1
              refine wp_region_after (by kernel_rfl) (by kernel_rfl) ?_
              repeat (go_big_quiet_step (first
                | (go_at_call 66; exact qafter (cA _))
                | (go_at_call 67; exact qafter (cC _))))
              refine wpQuiet_nil ?_
              rintro _ ⟨⟨w6, hg6⟩, rfl⟩
              go_wp2
              go_roundg (n - (m + 1 + 1))
              case measure => have := HG.out; omega
              case rel =>
                refine ⟨m + 1 + 1, by go_num, by omega, (hg.trans hg0).trans hg6, Lib.hid (fun j a h e => ?_), Lib.hid (fun j a b h ea eb => ?_)⟩
                · by_cases hj : j < m + 1
                  · exact H1.out j a hj e
                  · obtain rfl : j = m + 1 := by omega
                    rw [HX.out] at e
                    cases e
                    exact HA.out
                · by_cases hj : j + 1 < m + 1
                  · exact H2.out j a b hj ea eb
                  · obtain rfl : j = m := by omega
                    rw [HY.out] at ea
                    rw [HX.out] at eb
                    cases ea
                    cases eb
                    exact HT.out
            · have hcv : 0 ≤ Rm.cmpW ps[m] ps[m + 1] := by have := mt Rm.cmpW_neg.1 hlt; omega
              have HE : Hid (q = false) := Lib.hid (by
                cases hc : q
                · rfl
                · rw [hc] at HQ
                  exact absurd ((Rm.fineD_iff2.1 HQ.out).2.2 m _ _ HY.out HX.out) hlt)
              clear ha ha2 hc0 hc1 hm0' hm1' hN hlt e2
              generalize Rm.cmpW ps[m] ps[m + 1] = z at *
              generalize ps[m + 1].1 = x1 at *
              generalize ps[m + 1].2 = x2 at *
              generalize ps[m].1 = y1 at *
              generalize ps[m].2 = y2 at *
              go_wp2_with fail
              generalize wr.alloc (.cells #[.int .i64 x1, .int .i64 x2] 64) = W at *
              have v0 := after_cell hb0
              have v1 := after_cell hb1
              have v2 := after_cell hm0
              have v3 := after_cell hm1
              refine wp_region_after (by kernel_rfl) (by kernel_rfl) ?_
              repeat (go_big_quiet_step (first
                | (go_at_call 66; exact qafter (cA _))
                | (go_at_call 67; exact qafter (cC _))))
              refine wpQuiet_nil ?_
              rintro _ ⟨⟨w6, hg6⟩, rfl⟩
              go_wp2
              go_ret
              exact ⟨ret_bool HE.out.symm, (hg.trans hg0).trans hg6⟩
        · have hfa : Rm.mayD (ps[k].1, ps[k].2) = false := by simpa using ha
          rw [hfa] at cA
          have HE : Hid (q = false) := Lib.hid (by
            cases hc : q
            · rfl
            · rw [hc] at HQ
              exact absurd ((Rm.fineD_iff2.1 HQ.out).2.1 k _ HX.out) ha)
          clear ha hc0 hc1 hN hfa
          generalize ps[k].1 = x1 at *
          generalize ps[k].2 = x2 at *
          go_wp2_with fail
          generalize wr.alloc (.cells #[.int .i64 x1, .int .i64 x2] 64) = W at *
          have y0 := after_cell hb0
          have y1 := after_cell hb1
          refine wp_region_after (by kernel_rfl) (by kernel_rfl) ?_
          repeat (go_big_quiet_step (first | (go_at_call 66; exact qafter (cA _))))
          refine wpQuiet_nil ?_
          rintro _ ⟨⟨w6, hg6⟩, rfl⟩
          go_wp2
          go_ret
          exact ⟨ret_bool HE.out.symm, (hg.trans hg0).trans hg6⟩
      · obtain rfl : k = n := by have := HG.out; omega
        have HE : Hid (q = true) := Lib.hid (by
          rw [← HQ.out]
          exact Rm.fineD_iff2.2 ⟨by rw [HL.out]; exact h40, fun j a e => H1.out j a (by rw [← HL.out]; exact (List.getElem?_eq_some_iff.1 e).1) e, fun j a b ea eb => H2.out j a b (by rw [← HL.out]; exact (List.getElem?_eq_some_iff.1 eb).1) ea eb⟩)
        clear hN
        go_wp2
        go_ret
        exact ⟨ret_bool HE.out.symm, hg⟩
  · have HE : Hid (q = false) := Lib.hid (by
      cases hc : q
      · rfl
      · rw [hc] at HQ
        have := (Rm.fineD_iff2.1 HQ.out).1
        rw [HL.out] at this
        exact absurd this h40)
    clear hN
    go_enter Tryz.func65, Tryz.ntmps65
    go_wp2
    go_ret
    exact ⟨ret_bool HE.out.symm, Gr.refl _⟩
end Go.Proofs.YtmbmkldcedkbmaaGreat
