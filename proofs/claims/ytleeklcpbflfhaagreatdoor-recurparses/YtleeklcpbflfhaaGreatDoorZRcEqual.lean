/- What recur.Equal returns (written by mkequal.py). -/
import Derived.Test.YtleeklcpbflfhaaGreatDoorZE
import Derived.Test.YtleeklcpbflfhaaGreatDoorZO
import Derived.Test.YtleeklcpbflfhaaGreatDoorZRcForm
import Derived.Test.YtleeklcpbflfhaaGreatDoorZH
import Derived.Deep.WholeRow
namespace Go.Proofs.YtleeklcpbflfhaaGreatDoor
open Go.RowKit

namespace Rm
theorem Ru.eq_of {a b : Ru} (h0 : a.freq = b.freq) (h1 : a.ivl = b.ivl) (h2 : a.cnt = b.cnt) (h3 : a.uk = b.uk) (h4 : a.ua = b.ua) (h5 : a.uz = b.uz) (h6 : a.has = b.has) (h7 : a.st = b.st) (h8 : ∀ i, i < 8 → a.ls i = b.ls i) (h9 : a.day = b.day) : a = b := by
  have g0 := h8 0 (by decide)
  have g1 := h8 1 (by decide)
  have g2 := h8 2 (by decide)
  have g3 := h8 3 (by decide)
  have g4 := h8 4 (by decide)
  have g5 := h8 5 (by decide)
  have g6 := h8 6 (by decide)
  have g7 := h8 7 (by decide)
  cases a
  cases b
  simp only [Ru.ls] at *
  subst h0 h1 h2 h3 h4 h5 h6 h7 h9 g0 g1 g2 g3 g4 g5 g6 g7
  rfl
theorem nlArr_ptr (b : Nat) : ∀ k, k < 8 → (nlArr b)[k * 4 + 1]? = some (.pointer (some ⟨b, off k, none⟩)) := by
  intro k hk
  rcases (show k = 0 ∨ k = 1 ∨ k = 2 ∨ k = 3 ∨ k = 4 ∨ k = 5 ∨ k = 6 ∨ k = 7 by omega) with rfl | rfl | rfl | rfl | rfl | rfl | rfl | rfl <;> rfl
end Rm
theorem nlArr_cell {w : World} {b b' : Nat} {t : TypeId} {fr : Nat × Nat} (h : w.heap[b]? = some (.cells (Rm.nlArr b') t fr)) {k : Nat} (hk : k < 8) : w.cell? ⟨b, k * 4 + 1, none⟩ = some (.pointer (some ⟨b', Rm.off k, none⟩)) := by
  rw [show w.cell? ⟨b, k * 4 + 1, none⟩ = (Rm.nlArr b')[k * 4 + 1]? by simp [World.cell?, h], Rm.nlArr_ptr b' k hk]
theorem z_eq {a b : ByteArray} {x y : List UInt8} (ha : a.data.toList = x) (hb : b.data.toList = y) : a.toList = b.toList ↔ x = y := by
  rw [Lib.toList_data, Lib.toList_data, ha, hb]
theorem z_eq2 {a b : ByteArray} (h : a.data.toList = b.data.toList) : a = b := by
  rw [← Lib.mk_data a, ← Lib.mk_data b, h]
set_option maxRecDepth 100000 in
set_option maxHeartbeats 16000000 in
theorem requal_any (V V2 : Rm.Rv) (w : World) (hM : RuM w w.heap.size V) (hM2 : RuM w w.heap.size V2) (hd : V.day.n ≤ 140737488355328) (hn : ∀ i, i < 8 → (V.sl i).n ≤ 140737488355328) (q : Bool) (hq : q = true ↔ V.r = V2.r) :
    Calls Tryz.prog 15 #[.agg V.val, .agg V2.val] w fun e w' => e = .returned (.bool q) ∧ Gr w w' := by
  have hgA : Gr w (w.alloc (.cells V.val 27)) := (Gr.refl w).allocO _
  have hgB : Gr (w.alloc (.cells V.val 27)) ((w.alloc (.cells V.val 27)).alloc (.cells V2.val 27)) := (Gr.refl _).allocO _
  have hsz : (w.alloc (.cells V.val 27)).heap.size = w.heap.size + 1 := by simp
  have hB2 := (RBx.now w V 27).gr hgB
  have hB3 : RBx ((w.alloc (.cells V.val 27)).alloc (.cells V2.val 27)) (w.heap.size + 1) V2 := by
    rw [← hsz]
    exact RBx.now _ V2 27
  have hgw := hgA.trans hgB
  have HM := Lib.hid hM
  have HM2 := Lib.hid hM2
  have HQ := Lib.hid hq
  have HN := Lib.hid hn
  clear hM hM2 hq hn hgA hgB hsz
  go_enter Tryz.func15, Tryz.ntmps15
  go_upto_region 1 with fail
  generalize (w.alloc (.cells V.val 27)).alloc (.cells V2.val 27) = W at *
  go_upto_region 2 with (first | (go_at_call 28; refine (numberLists_any _ _).mono ?_; rintro e w1 ⟨rfl, hg1⟩) | (refine wpList_store_row rfl 54 (.tmp 5) (.tmp 8) rfl w1.heap.size (Rm.nlArr (w.heap.size + 1)) rfl rfl 54 _ (heap_alloc_new _ _) info_nl rfl (nl_one _) ?_; rw [World.setRow_alloc_new]))
  have hgC : Gr w1 (w1.alloc (.cells (Rm.nlArr (w.heap.size + 1)) 54)) := (Gr.refl _).allocO _
  have hk5 := heap_alloc_new w1 (.cells (Rm.nlArr (w.heap.size + 1)) 54)
  have hgD := hg1.trans hgC
  have hl5 : w1.heap.size < (w1.alloc (.cells (Rm.nlArr (w.heap.size + 1)) 54)).heap.size := by simp
  go_upto_region 3 with (go_at_call 28; refine (numberLists_any _ _).mono ?_; rintro e w3 ⟨rfl, hg3⟩)
  have hB2 := (hB2.gr hgD).gr hg3
  have hB3 := (hB3.gr hgD).gr hg3
  have hA : ∀ k, k < 8 → w3.cell? ⟨w1.heap.size, k * 4 + 1, none⟩ = some (.pointer (some ⟨w.heap.size + 1, Rm.off k, none⟩)) := fun k hk => gr_cell hg3 (nlArr_cell hk5 hk)
  have hgw := (hgw.trans hgD).trans hg3
  have HA := Lib.hid hA
  clear hA hgD hgC hg3 hg1 hk5 hl5
  have HB2 := Lib.hid hB2
  have HB3 := Lib.hid hB3
  clear hB2 hB3
  go_loopg [10] 8 (fun g v wx => ∃ k : Nat, v = .int .i64 (k : Int) ∧ k + g = 8 ∧ Gr w3 wx ∧ Hid (∀ i, i < k → V.r.ls i = V2.r.ls i))
  case atStart => exact ⟨0, rfl, rfl, Gr.refl _, Lib.hid (fun i h => absurd h (by omega))⟩
  case round =>
    obtain ⟨k, rfl, hkg, hg, HE⟩ := hrel
    have HG := Lib.hid hkg
    clear hkg
    have HGW := Lib.hid (hgw.trans hg)
    by_cases hk : k < 8
    · have hkn : (k : Int) < 8 := by omega
      have hix := nl_ix wr w.heap.size k hk
      have hga : Gr wr (wr.alloc (.cells #[.string ⟨(Rm.nmL k).toArray⟩, .pointer (some ⟨w.heap.size, Rm.off k, none⟩), .int .i64 (Rm.lo k), .int .i64 (Rm.hi k)] 53)) := (Gr.refl wr).allocO _
      have d1 : (wr.alloc (.cells #[.string ⟨(Rm.nmL k).toArray⟩, .pointer (some ⟨w.heap.size, Rm.off k, none⟩), .int .i64 (Rm.lo k), .int .i64 (Rm.hi k)] 53)).cell? ⟨wr.heap.size, 1, none⟩ = some (.pointer (some ⟨w.heap.size, Rm.off k, none⟩)) := by simp
      have d2 := gr_cell hga ((HB2.out.gr hg).at_ hk)
      have d3 := gr_cell hga ((HB3.out.gr hg).at_ hk)
      have d5 := gr_cell hga (gr_cell hg (HA.out k hk))
      have HK := Lib.hid hk
      have cE := fun w' (h : Gr wr w') => (eqI_any (V.sl k).A (V2.sl k).A (V.sl k).n (V.sl k).c (V2.sl k).n (V2.sl k).c (V.r.ls k) (V2.r.ls k) w' (((HM.out.gr HGW.out).gr h).l k hk) (((HM2.out.gr HGW.out).gr h).l k hk) (HN.out k hk) (decide (V.r.ls k = V2.r.ls k)) (by simp)).mono (fun e w'' h => (⟨h.1, by obtain ⟨_, d, rfl⟩ := h; exact (Gr.refl _).drewN d⟩ : e = .returned (.bool (decide (V.r.ls k = V2.r.ls k))) ∧ Gr w' w''))
      have hgq := HGW.out.trans hga
      have HGA := Lib.hid hga
      have HG0 := Lib.hid hg
      clear hga hg hgw
      rcases he : decide (V.r.ls k = V2.r.ls k)
      · have HR : Hid (q = false) := Lib.hid (by
          cases h : q
          · rfl
          · rw [HQ.out.1 h] at he
            simp at he)
        rw [he] at cE
        clear he
        generalize (V.sl k).A = A at *
        generalize (V.sl k).n = n at *
        generalize (V.sl k).c = c at *
        generalize (V2.sl k).A = A2 at *
        generalize (V2.sl k).n = n2 at *
        generalize (V2.sl k).c = c2 at *
        go_upto_region 5 with fail
        generalize wr.alloc (.cells #[.string ⟨(Rm.nmL k).toArray⟩, .pointer (some ⟨w.heap.size, Rm.off k, none⟩), .int .i64 (Rm.lo k), .int .i64 (Rm.hi k)] 53) = Wa at *
        have v1 := after_cell d1
        have v2 := after_cell d2
        have v3 := after_cell d3
        have v5 := after_cell d5
        refine wp_region_after (by kernel_rfl) (by kernel_rfl) ?_
        repeat (go_big_quiet_step (first | (go_at_call 41; exact qafter (cE _ (HGA.out.trans (by exact (After.gr _)))))))
        refine wpQuiet_nil ?_
        rintro _ ⟨⟨w6, hg6⟩, rfl⟩
        go_wp2
        go_ret
        exact ⟨ret_bool HR.out.symm, hgq.trans hg6⟩
      · have HR : Hid (∀ i, i < k + 1 → V.r.ls i = V2.r.ls i) := Lib.hid (fun i hi => by
          rcases Nat.lt_or_ge i k with h1 | h1
          · exact HE.out i h1
          · obtain rfl : i = k := by omega
            exact of_decide_eq_true he)
        rw [he] at cE
        clear he
        generalize (V.sl k).A = A at *
        generalize (V.sl k).n = n at *
        generalize (V.sl k).c = c at *
        generalize (V2.sl k).A = A2 at *
        generalize (V2.sl k).n = n2 at *
        generalize (V2.sl k).c = c2 at *
        go_upto_region 5 with fail
        generalize wr.alloc (.cells #[.string ⟨(Rm.nmL k).toArray⟩, .pointer (some ⟨w.heap.size, Rm.off k, none⟩), .int .i64 (Rm.lo k), .int .i64 (Rm.hi k)] 53) = Wa at *
        have v1 := after_cell d1
        have v2 := after_cell d2
        have v3 := after_cell d3
        have v5 := after_cell d5
        refine wp_region_after (by kernel_rfl) (by kernel_rfl) ?_
        repeat (go_big_quiet_step (first | (go_at_call 41; exact qafter (cE _ (HGA.out.trans (by exact (After.gr _)))))))
        refine wpQuiet_nil ?_
        rintro _ ⟨⟨w6, hg6⟩, rfl⟩
        go_wp2
        go_roundg (8 - (k + 1))
        case measure => have := HG.out; have := HK.out; omega
        case rel => exact ⟨k + 1, by go_num, by have := HK.out; omega, (HG0.out.trans HGA.out).trans hg6, HR⟩
    · obtain rfl : k = 8 := by have := HG.out; omega
      have hBa := HB2.out.gr hg
      have hBb := HB3.out.gr hg
      have cD := fun w' (h : Gr wr w') => (eqD_any V.day.A V2.day.A V.day.n V.day.c V2.day.n V2.day.c V.r.day V2.r.day w' (((HM.out.gr HGW.out).gr h).d) (((HM2.out.gr HGW.out).gr h).d) hd (decide (V.r.day = V2.r.day)) (by simp)).mono (fun e w'' h => (⟨h.1, by obtain ⟨_, d, rfl⟩ := h; exact (Gr.refl _).drewN d⟩ : e = .returned (.bool (decide (V.r.day = V2.r.day))) ∧ Gr w' w''))
      obtain ⟨e0, e1, e2, e3, e4, e5, e6, e7, e8, e9, e10, e11, e12, e13, e14, e15, e16⟩ := hBa
      obtain ⟨f0, f1, f2, f3, f4, f5, f6, f7, f8, f9, f10, f11, f12, f13, f14, f15, f16⟩ := hBb
      clear e8 e9 e10 e12 e13 e14 e15 e16 f8 f9 f10 f12 f13 f14 f15 f16 hg hgw
      have HX : Hid (q = true ↔ (V.r.freq = V2.r.freq ∧ V.r.ivl = V2.r.ivl ∧ V.r.cnt = V2.r.cnt ∧ (V.r.uk = V2.r.uk ∧ V.r.ua = V2.r.ua ∧ V.z.toList = V2.z.toList) ∧ V.r.has = V2.r.has ∧ V.r.st = V2.r.st ∧ V.r.day = V2.r.day)) := Lib.hid (by
        rw [HQ.out, z_eq HM.out.z HM2.out.z]
        exact ⟨fun h => by rw [h]; exact ⟨rfl, rfl, rfl, ⟨rfl, rfl, rfl⟩, rfl, rfl, rfl⟩, fun ⟨h0, h1, h2, ⟨h3, h4, h5⟩, h6, h7, h9⟩ => Rm.Ru.eq_of h0 h1 h2 h3 h4 h5 h6 h7 HE.out h9⟩)
      obtain ⟨qd, hqd⟩ : ∃ qd, decide (V.r.day = V2.r.day) = qd := ⟨_, rfl⟩
      rw [hqd] at cD
      have HD : Hid (V.r.day = V2.r.day ↔ qd = true) := Lib.hid (by rw [← hqd]; simp)
      have HX2 : Hid (q = true ↔ (V.r.freq = V2.r.freq ∧ V.r.ivl = V2.r.ivl ∧ V.r.cnt = V2.r.cnt ∧ (V.r.uk = V2.r.uk ∧ V.r.ua = V2.r.ua ∧ V.z.toList = V2.z.toList) ∧ V.r.has = V2.r.has ∧ V.r.st = V2.r.st ∧ qd = true)) := Lib.hid (by rw [← HD.out]; exact HX.out)
      have HG8 := HGW
      clear HX HD hqd HQ HM HM2 HN HE HA HB2 HB3 HG hd
      generalize V.r.freq = a0 at *
      generalize V2.r.freq = b0 at *
      generalize V.r.ivl = a1 at *
      generalize V2.r.ivl = b1 at *
      generalize V.r.cnt = a2 at *
      generalize V2.r.cnt = b2 at *
      generalize V.r.uk = a3 at *
      generalize V2.r.uk = b3 at *
      generalize V.r.ua = a4 at *
      generalize V2.r.ua = b4 at *
      generalize V.r.has = a6 at *
      generalize V2.r.has = b6 at *
      generalize V.r.st = a7 at *
      generalize V2.r.st = b7 at *
      generalize V.z = za at *
      generalize V2.z = zb at *
      by_cases hne : a0 = b0
      · subst hne
        by_cases hne : a1 = b1
        · subst hne
          by_cases hne : a2 = b2
          · subst hne
            by_cases hne : a3 = b3
            · subst hne
              by_cases hne : a4 = b4
              · subst hne
                by_cases hne : za.toList = zb.toList
                · obtain rfl : za = zb := z_eq2 (by rw [Lib.toList_data, Lib.toList_data] at hne; exact hne)
                  clear hne
                  by_cases hne : a6 = b6
                  · subst hne
                    by_cases hne : a7 = b7
                    · subst hne
                      have HR : Hid (q = qd) := Lib.hid (by rw [Bool.eq_iff_iff, HX2.out]; simp)
                      clear HX2
                      go_wp2_with (go_at_call 42; refine (cD _ (Gr.refl _)).mono ?_; rintro e w6 ⟨rfl, hg6⟩)
                      go_ret
                      exact ⟨ret_bool HR.out.symm, HG8.out.trans hg6⟩
                    · have HR : Hid (q = false) := Lib.hid (by
                        cases h : q
                        · rfl
                        · have h2 := HX2.out.1 h
                          exact absurd h2.2.2.2.2.2.1 hne)
                      have hnb : (a7 == b7) = false := beq_eq_false_iff_ne.2 hne
                      clear hne
                      clear HX2 cD
                      go_wp2_with fail
                      go_ret
                      exact ⟨ret_bool HR.out.symm, HG8.out⟩
                  · have HR : Hid (q = false) := Lib.hid (by
                      cases h : q
                      · rfl
                      · have h2 := HX2.out.1 h
                        exact absurd h2.2.2.2.2.1 hne)
                    have hnb : (a6 == b6) = false := beq_eq_false_iff_ne.2 hne
                    clear hne
                    clear HX2 cD
                    go_wp2_with fail
                    go_ret
                    exact ⟨ret_bool HR.out.symm, HG8.out⟩
                · have HR : Hid (q = false) := Lib.hid (by
                    cases h : q
                    · rfl
                    · have h2 := HX2.out.1 h
                      exact absurd h2.2.2.2.1.2.2 hne)
                  clear HX2 cD
                  go_wp2_with fail
                  go_ret
                  exact ⟨ret_bool HR.out.symm, HG8.out⟩
              · have HR : Hid (q = false) := Lib.hid (by
                  cases h : q
                  · rfl
                  · have h2 := HX2.out.1 h
                    exact absurd h2.2.2.2.1.2.1 hne)
                clear HX2 cD
                go_wp2_with fail
                go_ret
                exact ⟨ret_bool HR.out.symm, HG8.out⟩
            · have HR : Hid (q = false) := Lib.hid (by
                cases h : q
                · rfl
                · have h2 := HX2.out.1 h
                  exact absurd h2.2.2.2.1.1 hne)
              clear HX2 cD
              go_wp2_with fail
              go_ret
              exact ⟨ret_bool HR.out.symm, HG8.out⟩
          · have HR : Hid (q = false) := Lib.hid (by
              cases h : q
              · rfl
              · have h2 := HX2.out.1 h
                exact absurd h2.2.2.1 hne)
            have hnb : (a2 == b2) = false := beq_eq_false_iff_ne.2 hne
            clear hne
            clear HX2 cD
            go_wp2_with fail
            go_ret
            exact ⟨ret_bool HR.out.symm, HG8.out⟩
        · have HR : Hid (q = false) := Lib.hid (by
            cases h : q
            · rfl
            · have h2 := HX2.out.1 h
              exact absurd h2.2.1 hne)
          have hnb : (a1 == b1) = false := beq_eq_false_iff_ne.2 hne
          clear hne
          clear HX2 cD
          go_wp2_with fail
          go_ret
          exact ⟨ret_bool HR.out.symm, HG8.out⟩
      · have HR : Hid (q = false) := Lib.hid (by
          cases h : q
          · rfl
          · have h2 := HX2.out.1 h
            exact absurd h2.1 hne)
        have hnb : (a0 == b0) = false := beq_eq_false_iff_ne.2 hne
        clear hne
        clear HX2 cD
        go_wp2_with fail
        go_ret
        exact ⟨ret_bool HR.out.symm, HG8.out⟩
end Go.Proofs.YtleeklcpbflfhaaGreatDoor
