/- What line.Formed returns. -/
import Derived.Test.YtpcmhaflmpcicaaDoorLnForm
import Derived.Test.YtpcmhaflmpcicaaDoorLnAft
namespace Go.Proofs.YtpcmhaflmpcicaaDoor
open Go.RowKit

namespace Ln
/- the values that are looked at are of a size that is borne -/
def Calm (ps : List Par) : Prop := ∀ k (hk : k < ps.length), psB (ps.take k) = true → ps[k].2.length ≤ 60 → ∀ v ∈ ps[k].2, v.length ≤ 400000
theorem formed_name {l : Li} (h : nameB l.name = false) : formed l = false := by unfold formed; rw [h]; simp
theorem formed_many {l : Li} (h : 60 < l.ps.length) : formed l = false := by unfold formed; rw [decide_eq_false (by omega : ¬ l.ps.length ≤ 60)]; simp
theorem formed_val {l : Li} (h : Es.clE false l.value ≠ 0) : formed l = false := by unfold formed; rw [decide_eq_false h]; simp
theorem formed_ps {l : Li} (h : psB l.ps = false) : formed l = false := by unfold formed; rw [h]; simp
theorem formed_ok {l : Li} (h1 : nameB l.name = true) (h2 : l.ps.length ≤ 60) (h3 : Es.clE false l.value = 0) (h4 : psB l.ps = true) : formed l = true := (formed_iff l).2 ⟨h1, h2, h3, h4⟩
theorem calm_of {ps : List Par} (h : wtPs ps ≤ 400000) : Calm ps := fun k hk _ _ v hv => by
  have h1 := wtPs_mem (List.getElem_mem hk)
  unfold wtP at h1
  have h2 := wtV_mem hv
  omega
theorem wt_val {ps : List Par} {k : Nat} (hk : k < ps.length) : (∀ v ∈ ps[k].2, v.length ≤ wtPs ps) ∧ ps[k].2.length ≤ wtPs ps ∧ ps[k].1.length ≤ wtPs ps := by
  have h1 := wtPs_mem (List.getElem_mem hk)
  unfold wtP at h1
  have h2 := wtV_len ps[k].2
  exact ⟨fun v hv => by have := wtV_mem hv; omega, by omega, by omega⟩
end Ln
set_option maxHeartbeats 4000000 in
set_option maxRecDepth 100000 in
theorem formed_any (N V : ByteArray) (A : Option Addr) (n c : Nat) (ps : List Ln.Par) (w : World) (ht : Tab w) (hP : Pars w w.heap.size A n ps) (hnc : n ≤ c) (hC : Ln.Calm ps) (hvn : ∀ p ∈ ps, p.2.length ≤ 140737488355328) (hV : V.size ≤ 140737488355328) :
    Calls Tryd.prog 12 #[.agg #[.string N, .slice A n c, .string V]] w fun e w' => e = .returned (.bool (Ln.formed ⟨N.data.toList, ps, V.data.toList⟩)) ∧ Gr w w' := by
  have hlen : ps.length = n := hP.1
  have hg0 : Gr w (w.alloc (.cells #[.string N, .slice A n c, .string V] 32)) := (Gr.refl w).allocO _
  have hx0 := Bx3.new w (.string N) (.slice A n c) (.string V) 32
  have cN := fun w => lname_any N w
  cases hnm : Ln.nameB N.data.toList
  · rw [Ln.formed_name (l := ⟨N.data.toList, ps, V.data.toList⟩) hnm]
    rw [hnm] at cN
    clear hnm
    go_enter Tryd.func12, Tryd.ntmps12
    go_wp2_with (go_at_call 14; refine (cN _).mono ?_; rintro e w' ⟨rfl, rfl⟩)
    go_ret
    exact ⟨rfl, hg0⟩
  · rw [hnm] at cN
    by_cases h60 : 60 < n
    · rw [Ln.formed_many (l := ⟨N.data.toList, ps, V.data.toList⟩) (by show 60 < ps.length; omega)]
      have hi60 : (60 : Int) < (n : Int) := by omega
      clear hnm
      go_enter Tryd.func12, Tryd.ntmps12
      go_wp2_with (go_at_call 14; refine (cN _).mono ?_; rintro e w' ⟨rfl, rfl⟩)
      go_ret
      exact ⟨rfl, hg0⟩
    · have hi60 : ¬ (60 : Int) < (n : Int) := by omega
      have cF := fval_any V _ (ht.keep hg0) hV
      by_cases hcl : Es.clE false V.data.toList = 0
      · rw [decide_eq_true hcl] at cF
        have HB := Lib.hid (fun h => Ln.formed_ps (l := ⟨N.data.toList, ps, V.data.toList⟩) h)
        have HO := Lib.hid (fun h => Ln.formed_ok (l := ⟨N.data.toList, ps, V.data.toList⟩) hnm (by show ps.length ≤ 60; omega) hcl h)
        have HL := Lib.hid hlen
        generalize Ln.formed ⟨N.data.toList, ps, V.data.toList⟩ = E at *
        clear hnm hlen hcl
        go_enter Tryd.func12, Tryd.ntmps12
        go_wp2_with (first
          | (go_at_call 14; refine (cN _).mono ?_; rintro e w' ⟨rfl, rfl⟩)
          | (go_at_call 23; refine cF.mono ?_; rintro e w1 ⟨rfl, hg1⟩; have hx1 := hx0.gr hg1; obtain ⟨a0, a1, a2, a3, a4, a5⟩ := hx1))
        have hg2 := hg0.trans hg1
        go_loopg [24] n (fun g v wx => ∃ k : Nat, v = .int .i64 (k : Int) ∧ k + g = n ∧ Gr w1 wx ∧ Hid (Ln.psB (ps.take k) = true))
        case atStart => exact ⟨0, rfl, by omega, Gr.refl _, Lib.hid (by rw [List.take_zero]; decide)⟩
        case round =>
          obtain ⟨k, rfl, hkg, hg3, HN⟩ := hrel
          have HG := Lib.hid hkg
          clear hkg
          have hg4 := hg2.trans hg3
          by_cases hk : k < n
          · have hPr := hP.gr hg4
            obtain ⟨ad, hk', rfl, hbl, hc0, A', n', c', hc1, hS⟩ := hPr.at_ hk
            have hcm := hC k hk' HN.out
            have hvk := hvn _ (List.getElem_mem hk')
            have HST := Lib.hid (Ln.psB_at ps k hk')
            have hx3 := (hx0.gr hg1).gr hg3
            have hg5 : Gr wr (wr.alloc (.cells #[.string ⟨ps[k].1.toArray⟩, .slice A' n' c'] 49)) := (Gr.refl wr).allocO _
            have hx5 := hx3.gr hg5
            have hy5 := Bx2.new wr (.string ⟨ps[k].1.toArray⟩) (.slice A' n' c') 49
            have hPc := (hPr.cut k (by omega)).gr hg5
            have hS5 : Strs _ _ A' n' ps[k].2 := (hS.keep hg5.below).more hg5.lt
            have ht5 := (ht.keep hg4).keep hg5
            have e1 : (ByteArray.mk ps[k].1.toArray).data.toList = ps[k].1 := rfl
            have cP := fun w1 (t1 : Tab w1) (s1 : Strs w1 w1.heap.size A' n' ps[k].2) => fpar_any ⟨ps[k].1.toArray⟩ A' n' c' ps[k].2 w1 t1 s1 (fun h6 => hcm (by rw [hS.1]; exact h6)) (by rw [← hS.1]; exact hvk)
            have cI := fun w1 (p1 : Pars w1 w1.heap.size (some ad) k (ps.take k)) => index_val ⟨ps[k].1.toArray⟩ (some ad) k c (ps.take k) w1 p1 (by omega)
            have hix := (Ln.ixv_is (ps.take k) ps[k].1).neg
            rw [e1] at cP cI
            have e2 : (ps[k].1, ps[k].2) = ps[k] := rfl
            rw [e2] at cP
            have hkc : (k : Int) ≤ (c : Int) := by omega
            cases hpb : Ln.parB ps[k]
            · have HE : Hid (E = false) := Lib.hid (HB.out (Ln.psB_no ps (k + 1) (by rw [HST.out, hpb]; simp)))
              rw [hpb] at cP
              clear hpb e1 e2 hcm hvk HST hix
              generalize (ByteArray.mk ps[k].1.toArray) = nb at *
              go_wp2_with fail
              generalize wr.alloc (.cells #[.string nb, .slice A' n' c'] 49) = W at *
              have y0 := after_cell hy5.c0
              have y1 := after_cell hy5.c1
              have x1 := after_cell hx5.c1
              refine wp_region_after (by kernel_rfl) (by kernel_rfl) ?_
              repeat (go_big_quiet_step (first
                | (go_at_call 24; exact qafter (cP _ (ht5.keep (by exact (After.gr _))) ((hS5.keep (Gr.below (by exact (After.gr _)))).more (Gr.lt (by exact (After.gr _))))))
                | (go_at_call 25; exact qafter (cI _ (hPc.gr (by exact (After.gr _)))))))
              refine wpQuiet_nil ?_
              rintro _ ⟨⟨w6, hg6⟩, rfl⟩
              go_wp2
              go_ret
              exact ⟨ret_bool HE.out.symm, (hg4.trans hg5).trans hg6⟩
            · rw [hpb] at cP
              cases hct : ((ps.take k).map Prod.fst).contains ps[k].1
              · have HE : Hid (Ln.psB (ps.take (k + 1)) = true) := Lib.hid (by rw [HST.out, hpb, hct, HN.out]; rfl)
                rw [hct] at hix
                generalize Ln.ixv (ps.take k) ps[k].1 = v at *
                have hv0 : v < 0 := Int.not_le.1 (of_decide_eq_false hix)
                clear hpb e1 e2 hcm hvk HST hct hix
                generalize (ByteArray.mk ps[k].1.toArray) = nb at *
                go_wp2_with fail
                generalize wr.alloc (.cells #[.string nb, .slice A' n' c'] 49) = W at *
                have y0 := after_cell hy5.c0
                have y1 := after_cell hy5.c1
                have x1 := after_cell hx5.c1
                refine wp_region_after (by kernel_rfl) (by kernel_rfl) ?_
                repeat (go_big_quiet_step (first
                  | (go_at_call 24; exact qafter (cP _ (ht5.keep (by exact (After.gr _))) ((hS5.keep (Gr.below (by exact (After.gr _)))).more (Gr.lt (by exact (After.gr _))))))
                  | (go_at_call 25; exact qafter (cI _ (hPc.gr (by exact (After.gr _)))))))
                refine wpQuiet_nil ?_
                rintro _ ⟨⟨w6, hg6⟩, rfl⟩
                go_wp2
                go_roundg (n - (k + 1))
                case measure => have := HG.out; omega
                case rel => exact ⟨k + 1, by go_num, by omega, (hg3.trans hg5).trans hg6, HE⟩
              · have HE : Hid (E = false) := Lib.hid (HB.out (Ln.psB_no ps (k + 1) (by rw [HST.out, hct]; simp)))
                rw [hct] at hix
                generalize Ln.ixv (ps.take k) ps[k].1 = v at *
                have hv0 : 0 ≤ v := of_decide_eq_true hix
                clear hpb e1 e2 hcm hvk HST hct hix
                generalize (ByteArray.mk ps[k].1.toArray) = nb at *
                go_wp2_with fail
                generalize wr.alloc (.cells #[.string nb, .slice A' n' c'] 49) = W at *
                have y0 := after_cell hy5.c0
                have y1 := after_cell hy5.c1
                have x1 := after_cell hx5.c1
                refine wp_region_after (by kernel_rfl) (by kernel_rfl) ?_
                repeat (go_big_quiet_step (first
                  | (go_at_call 24; exact qafter (cP _ (ht5.keep (by exact (After.gr _))) ((hS5.keep (Gr.below (by exact (After.gr _)))).more (Gr.lt (by exact (After.gr _))))))
                  | (go_at_call 25; exact qafter (cI _ (hPc.gr (by exact (After.gr _)))))))
                refine wpQuiet_nil ?_
                rintro _ ⟨⟨w6, hg6⟩, rfl⟩
                go_wp2
                go_ret
                exact ⟨ret_bool HE.out.symm, (hg4.trans hg5).trans hg6⟩
          · obtain rfl : k = n := by have := HG.out; omega
            have he := HN.out
            rw [List.take_of_length_le (by rw [HL.out]; exact Nat.le_refl _)] at he
            have HE := Lib.hid (HO.out he)
            clear he
            go_wp2
            go_ret
            exact ⟨ret_bool HE.out.symm, hg4⟩
      · rw [Ln.formed_val (l := ⟨N.data.toList, ps, V.data.toList⟩) hcl]
        rw [decide_eq_false hcl] at cF
        clear hnm hcl
        go_enter Tryd.func12, Tryd.ntmps12
        go_wp2_with (first
          | (go_at_call 14; refine (cN _).mono ?_; rintro e w' ⟨rfl, rfl⟩)
          | (go_at_call 23; refine cF.mono ?_; rintro e w1 ⟨rfl, hg1⟩))
        go_ret
        exact ⟨rfl, hg0.trans hg1⟩
end Go.Proofs.YtpcmhaflmpcicaaDoor
