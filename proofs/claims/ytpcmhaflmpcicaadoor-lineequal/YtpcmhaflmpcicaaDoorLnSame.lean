/- What the laws' Same of lines returns. -/
import Derived.Test.YtpcmhaflmpcicaaDoorLnEq
namespace Go.Proofs.YtpcmhaflmpcicaaDoor
open Go.RowKit

set_option maxHeartbeats 4000000 in
set_option maxRecDepth 100000 in
theorem same10_any (N V N2 V2 : ByteArray) (A A2 : Option Addr) (n c n2 c2 : Nat) (ps qs : List Ln.Par) (w : World) (hP : Pars w w.heap.size A n ps) (hQ : Pars w w.heap.size A2 n2 qs) (hn : n ≤ 140737488355328) (hv : ∀ p ∈ ps, p.2.length ≤ 140737488355328) (q : Bool) (hq : q = true ↔ (N.data.toList = N2.data.toList ∧ V.data.toList = V2.data.toList ∧ ps = qs)) :
    Calls Tryd.prog 17 #[.agg #[.string N, .slice A n c, .string V], .agg #[.string N2, .slice A2 n2 c2, .string V2]] w fun e w' => e = .returned (.bool q) ∧ Gr w w' := by
  have hl : ps.length = n := hP.1
  have hl2 : qs.length = n2 := hQ.1
  have hg1 : Gr w ((w.alloc (.cells #[.string N, .slice A n c, .string V] 24)).alloc (.cells #[.string N2, .slice A2 n2 c2, .string V2] 24)) := ((Gr.refl w).allocO _).allocO _
  have hx1 := (Bx3.new w (.string N) (.slice A n c) (.string V) 24).gr ((Gr.refl _).allocO (.cells #[.string N2, .slice A2 n2 c2, .string V2] 24))
  have hx2 := Bx3.new (w.alloc (.cells #[.string N, .slice A n c, .string V] 24)) (.string N2) (.slice A2 n2 c2) (.string V2) 24
  have z1 : (w.alloc (.cells #[.string N, .slice A n c, .string V] 24)).heap.size = w.heap.size + 1 := by simp
  rw [z1] at hx2
  clear z1
  by_cases h1 : N.data.toList = N2.data.toList
  · have hs1 : (N.toList == N2.toList) = true := str_eq ⟨fun _ => h1, fun _ => rfl⟩
    by_cases h2 : V.data.toList = V2.data.toList
    · have hs2 : (V.toList == V2.toList) = true := str_eq ⟨fun _ => h2, fun _ => rfl⟩
      by_cases hnn : n = n2
      · subst hnn
        have HL := Lib.hid (And.intro hl hl2)
        have HQ := Lib.hid (show q = true ↔ ps = qs by rw [hq]; exact ⟨fun h => h.2.2, fun h => ⟨h1, h2, h⟩⟩)
        clear hl hl2 hq h1 h2
        go_enter Tryd.func17, Tryd.ntmps17
        go_wp2
        generalize (w.alloc (.cells #[.string N, .slice A n c, .string V] 24)).alloc (.cells #[.string N2, .slice A2 n c2, .string V2] 24) = w0 at *
        go_loopg [30] n (fun g v wx => ∃ k : Nat, v = .int .i64 (k : Int) ∧ k + g = n ∧ Gr w0 wx ∧ Hid (ps.take k = qs.take k))
        case atStart => exact ⟨0, rfl, by omega, Gr.refl _, Lib.hid (by simp)⟩
        case round =>
          obtain ⟨k, rfl, hkg, hg, HT⟩ := hrel
          have HG := Lib.hid hkg
          clear hkg
          have hgW := hg1.trans hg
          have hx1r := hx1.gr hg
          have hx2r := hx2.gr hg
          by_cases hk : k < n
          · have hPr := hP.gr hgW
            have hQr := hQ.gr hgW
            obtain ⟨ad, hk', rfl, hbl, hc0, A', n', c', hc1, hS⟩ := hPr.at_ hk
            obtain ⟨ad2, hk2, rfl, hbl2, hd0, A2', n2', c2', hd1, hS2⟩ := hQr.at_ hk
            have hnv : n' ≤ 140737488355328 := by have := hS.1; have := hv _ (List.getElem_mem hk'); omega
            have HT1 := Lib.hid (List.take_succ_eq_append_getElem hk')
            have HT2 := Lib.hid (List.take_succ_eq_append_getElem hk2)
            have HX := Lib.hid (fun (h : ps = qs) => show ps[k] = qs[k] by subst h; rfl)
            have e0 : ∀ x : List UInt8, (ByteArray.mk x.toArray).data.toList = x := fun _ => rfl
            have cE := fun w1 (s1 : Strs w1 w1.heap.size A' n' ps[k].2) (s2 : Strs w1 w1.heap.size A2' n2' qs[k].2) => lsame_any A' A2' n' c' n2' c2' ps[k].2 qs[k].2 w1 s1 s2 hnv
            have b0 := after_cell hc0
            have b1 := after_cell hc1
            have d0 := after_cell hd0
            have d1 := after_cell hd1
            have f0 := after_cell hx1r.c1
            have f1 := after_cell hx2r.c1
            by_cases hnm : ps[k].1 = qs[k].1
            · have hs3 : ((ByteArray.mk ps[k].1.toArray).toList == (ByteArray.mk qs[k].1.toArray).toList) = true := str_eq ⟨fun _ => hnm, fun _ => rfl⟩
              by_cases hvl : ps[k].2 = qs[k].2
              · have cE1 := fun w1 s1 s2 => (cE w1 s1 s2 true ⟨fun _ => hvl, fun _ => rfl⟩).mono (R' := fun e w' => e = .returned (.bool true) ∧ Gr w1 w') (fun _ _ h => ⟨h.1, gr_of_drew h.2⟩)
                have HE : Hid (ps.take (k + 1) = qs.take (k + 1)) := Lib.hid (by rw [HT1.out, HT2.out, HT.out, Prod.ext hnm hvl])
                clear hnm hvl HX HT1 HT2 cE hx1r hx2r e0
                generalize (ByteArray.mk ps[k].1.toArray) = s1 at *
                generalize (ByteArray.mk qs[k].1.toArray) = s2 at *
                go_wp2
                refine wp_region_after (by kernel_rfl) (by kernel_rfl) ?_
                repeat (go_big_quiet_step (first | (go_at_call 31; exact qafter (cE1 _ ((hS.keep (Gr.below (by exact (After.gr _)))).more (Gr.lt (by exact (After.gr _)))) ((hS2.keep (Gr.below (by exact (After.gr _)))).more (Gr.lt (by exact (After.gr _)))))))) 
                refine wpQuiet_nil ?_
                rintro _ ⟨⟨w6, hg6⟩, rfl⟩
                go_wp2
                go_roundg (n - (k + 1))
                case measure => have := HG.out; omega
                case rel => exact ⟨k + 1, by go_num, by omega, hg.trans hg6, HE⟩
              · have cE1 := fun w1 s1 s2 => (cE w1 s1 s2 false ⟨fun h => (by cases h), fun h => absurd h hvl⟩).mono (R' := fun e w' => e = .returned (.bool false) ∧ Gr w1 w') (fun _ _ h => ⟨h.1, gr_of_drew h.2⟩)
                have HE : Hid (q = false) := Lib.hid (by
                  cases hc : q
                  · rfl
                  · exact absurd (congrArg Prod.snd (HX.out (HQ.out.1 hc))) hvl)
                clear hnm hvl HX HT1 HT2 cE hx1r hx2r e0
                generalize (ByteArray.mk ps[k].1.toArray) = s1 at *
                generalize (ByteArray.mk qs[k].1.toArray) = s2 at *
                go_wp2
                refine wp_region_after (by kernel_rfl) (by kernel_rfl) ?_
                repeat (go_big_quiet_step (first | (go_at_call 31; exact qafter (cE1 _ ((hS.keep (Gr.below (by exact (After.gr _)))).more (Gr.lt (by exact (After.gr _)))) ((hS2.keep (Gr.below (by exact (After.gr _)))).more (Gr.lt (by exact (After.gr _)))))))) 
                refine wpQuiet_nil ?_
                rintro _ ⟨⟨w6, hg6⟩, rfl⟩
                go_wp2
                go_ret
                exact ⟨ret_bool HE.out.symm, hgW.trans hg6⟩
            · have hs3 : ((ByteArray.mk ps[k].1.toArray).toList == (ByteArray.mk qs[k].1.toArray).toList) = false := str_eq ⟨fun h => (by cases h), fun h => absurd h hnm⟩
              have HE : Hid (q = false) := Lib.hid (by
                  cases hc : q
                  · rfl
                  · exact absurd (congrArg Prod.fst (HX.out (HQ.out.1 hc))) hnm)
              clear hnm HX HT1 HT2 cE hx1r hx2r e0
              generalize (ByteArray.mk ps[k].1.toArray) = s1 at *
              generalize (ByteArray.mk qs[k].1.toArray) = s2 at *
              go_wp2
              refine wp_region_after (by kernel_rfl) (by kernel_rfl) ?_
              repeat (go_big_quiet_step (fail))
              refine wpQuiet_nil ?_
              rintro _ ⟨⟨w6, hg6⟩, rfl⟩
              go_wp2
              go_ret
              exact ⟨ret_bool HE.out.symm, hgW.trans hg6⟩
          · obtain rfl : k = n := by have := HG.out; omega
            have HE : Hid (q = true) := Lib.hid (HQ.out.2 (by
              have h := HT.out
              rwa [List.take_of_length_le (by rw [HL.out.1]; exact Nat.le_refl _), List.take_of_length_le (by rw [HL.out.2]; exact Nat.le_refl _)] at h))
            go_wp2
            go_ret
            exact ⟨ret_bool HE.out.symm, hgW⟩
      · have HE : Hid (q = false) := Lib.hid (by
          cases hc : q
          · rfl
          · exact absurd (by rw [← hl, ← hl2, (hq.1 hc).2.2]) hnn)
        have hne : ((n : Int) == (n2 : Int)) = false := by rw [beq_eq_false_iff_ne]; omega
        clear hl hl2 hq hnn h1 h2
        go_enter Tryd.func17, Tryd.ntmps17
        go_wp2
        go_ret
        exact ⟨ret_bool HE.out.symm, hg1⟩
    · have hs2 : (V.toList == V2.toList) = false := str_eq ⟨fun h => (by cases h), fun h => absurd h h2⟩
      have HE : Hid (q = false) := Lib.hid (by
        cases hc : q
        · rfl
        · exact absurd (hq.1 hc).2.1 h2)
      clear h1 h2 hq
      go_enter Tryd.func17, Tryd.ntmps17
      go_wp2
      go_ret
      exact ⟨ret_bool HE.out.symm, hg1⟩
  · have hs1 : (N.toList == N2.toList) = false := str_eq ⟨fun h => (by cases h), fun h => absurd h h1⟩
    have HE : Hid (q = false) := Lib.hid (by
      cases hc : q
      · rfl
      · exact absurd (hq.1 hc).1 h1)
    clear h1 hq
    go_enter Tryd.func17, Tryd.ntmps17
    go_wp2
    go_ret
    exact ⟨ret_bool HE.out.symm, hg1⟩
end Go.Proofs.YtpcmhaflmpcicaaDoor
