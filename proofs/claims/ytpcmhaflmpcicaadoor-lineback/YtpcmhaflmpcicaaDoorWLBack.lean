/- The walk of LineBack. -/
import Derived.Test.YtpcmhaflmpcicaaDoorLnAw
import Derived.Test.YtpcmhaflmpcicaaDoorLnPrint
import Derived.Test.YtpcmhaflmpcicaaDoorLnSame
import Derived.Test.YtpcmhaflmpcicaaDoorLnFew
import Derived.Test.YtpcmhaflmpcicaaDoorLnOurs
import Derived.Test.YtpcmhaflmpcicaaDoorLnTheirs
namespace Go.Proofs.YtpcmhaflmpcicaaDoor
open Go.RowKit

set_option maxHeartbeats 4000000 in
set_option maxRecDepth 100000 in
theorem lback_any (N V : ByteArray) (A : Option Addr) (n c : Nat) (ps : List Ln.Par) (w : World) (ht : Tab w) (hN : N.size ≤ 140737488355328) (hV : V.size ≤ 140737488355328) (hP : Pars w w.heap.size A n ps) (hn : n * 40 ≤ 140737488355328)
    (hp1 : ∀ p ∈ ps, p.1.length ≤ 140737488355328) (hp2 : ∀ p ∈ ps, p.2.length * 16 ≤ 140737488355328) (hp3 : ∀ p ∈ ps, ∀ v ∈ p.2, v.length ≤ 140737488355328) :
    Calls Tryd.prog 4 #[.agg #[.string N, .slice A n c, .string V]] w fun e w' => e = .returned (.bool true) ∧ Gr w w' := by
  have cA := fun w (t : Tab w) => awake10_any w t
  have hp2' : ∀ p ∈ ps, p.2.length ≤ 140737488355328 := fun p hp => by have := hp2 p hp; omega
  have cF := fun w (p : Pars w w.heap.size A n ps) => few10_any N V A n c ps w p hN hV (by omega) hp1 hp2' hp3
  have cT := fun w (p : Pars w w.heap.size A n ps) => theirs_any N V A n c ps w p hn hp2
  have hg0 : Gr w (w.alloc (.cells #[.string N, .slice A n c, .string V] 24)) := (Gr.refl w).allocO _
  have hx0 := Bx3.new w (.string N) (.slice A n c) (.string V) 24
  go_enter Tryd.func4, Tryd.ntmps4
  go_wp2_with fail
  refine (cA _ (ht.keep hg0)).mono ?_
  rintro e w1 ⟨rfl, hg01⟩
  have hg1 := hg0.trans hg01
  have hx1 := hx0.gr hg01
  obtain ⟨x10, x11, x12, _, _, _⟩ := hx1
  go_wp2_with fail
  refine (cF _ (hP.gr hg1)).mono ?_
  rintro e w2 ⟨b, rfl, hg2, hSm⟩
  have hg12 := hg1.trans hg2
  have hx2 := (hx0.gr hg01).gr hg2
  obtain ⟨x20, x21, x22, _, _, _⟩ := hx2
  cases b
  · go_wp2_with fail
    refine (cA _ (ht.keep hg12)).mono ?_
    rintro e w3 ⟨rfl, hg3⟩
    go_wp2
    go_ret
    exact ⟨rfl, hg12.trans hg3⟩
  · have hsm := hSm rfl
    clear hSm
    go_wp2_with fail
    refine (cT _ (hP.gr hg12)).mono ?_
    rintro e w3 ⟨A2, c2, rfl, hP3, hnc, hg3⟩
    have hg13 := hg12.trans hg3
    have cP := print_any N V A2 n c2 ps _ (ht.keep hg13) hP3 hnc hsm.calm hp2' hV (fun hf => by
      have h := Ln.Sm.formed (a := N.data.toList) (b := V.data.toList) (by rw [← Lib.size_eq, ← Lib.size_eq]; exact hsm) hf
      rw [Lib.size_eq, Lib.size_eq]; omega)
    go_wp2_with fail
    refine cP.mono ?_
    rintro e w4 ⟨rfl, hg4⟩
    have hg14 := hg13.trans hg4
    rcases Ln.prE_cases ⟨N.data.toList, ps, V.data.toList⟩ with ⟨e1, e2⟩ | ⟨e1, e2⟩ | ⟨e1, e2, hfm, hlen⟩
    · rw [e1, e2]
      go_wp2
      go_ret
      exact ⟨rfl, hg14⟩
    · rw [e1, e2]
      go_wp2
      go_ret
      exact ⟨rfl, hg14⟩
    · rw [e1, e2]
      have hrp := Ln.rp_pr _ hfm hlen
      have cQ := (parse_any ⟨(Ln.pr ⟨N.data.toList, ps, V.data.toList⟩).toArray⟩ w4 (ht.keep hg14) (by rw [size_mk]; omega)).mono (R' := fun e w' => ∃ A2 n2 c2, e = .returned (.tuple #[.agg #[.string N, .slice A2 n2 c2, .string V], .int .i64 0, .int .i64 0]) ∧ Gr w4 w' ∧ Pars w' w'.heap.size A2 n2 ps) (by
          rintro e w' (⟨l2, A2, n2, c2, hl2, he, hg, hq, _⟩ | ⟨hl2, _⟩)
          · have h2 : Ln.rp (Ln.pr ⟨N.data.toList, ps, V.data.toList⟩) = some l2 := hl2
            rw [hrp] at h2
            injection h2 with h2
            subst h2
            exact ⟨A2, n2, c2, he, hg, hq⟩
          · have h2 : Ln.rp (Ln.pr ⟨N.data.toList, ps, V.data.toList⟩) = none := hl2
            rw [hrp] at h2; cases h2)
      have hn60 : n ≤ 60 := by
        have h1 := ((Ln.formed_iff _).1 hfm).2.1
        have h2 := hP.1
        have h3 : ps.length ≤ 60 := h1
        omega
      clear e1 e2 hlen hfm hrp cP
      generalize (ByteArray.mk (Ln.pr ⟨N.data.toList, ps, V.data.toList⟩).toArray) = T at *
      go_wp2_with fail
      refine cQ.mono ?_
      rintro e w5 ⟨A5, n5, c5, rfl, hg5, hP5⟩
      obtain rfl : n = n5 := hP.1.symm.trans hP5.1
      have hg6 : Gr w5 (w5.alloc (.cells #[.string N, .slice A5 n c5, .string V] 32)) := (Gr.refl w5).allocO _
      have hz6 := Bx3.new w5 (.string N) (.slice A5 n c5) (.string V) 32
      have hx6 := ((((hx0.gr hg01).gr hg2).gr hg3).gr hg4).gr (hg5.trans hg6)
      have hg16 := (hg14.trans hg5).trans hg6
      have hP6 := hP.gr hg16
      have hQ6 := hP5.gr hg6
      have cO := fun w (p : Pars w w.heap.size A5 n ps) => ours_any N V A5 n c5 ps w p (by omega)
      have cS := fun w A2 c2 (q : Pars w w.heap.size A2 n ps) (p : Pars w w.heap.size A n ps) => same10_any N V N V A2 A n c2 n c ps ps w q p (by omega) hp2' true ⟨fun _ => ⟨rfl, rfl, rfl⟩, fun _ => rfl⟩
      go_wp2_with fail
      generalize w5.alloc (.cells #[.string N, .slice A5 n c5, .string V] 32) = w6 at *
      obtain ⟨x0, x1, x2, _, _, _⟩ := hx6
      obtain ⟨z0, z1, z2, _, _, _⟩ := hz6
      go_region_held3 (fun w' => w'.cell? ⟨w.heap.size, 0, none⟩ = some (.string N) ∧ w'.cell? ⟨w.heap.size, 1, none⟩ = some (.slice A n c) ∧ w'.cell? ⟨w.heap.size, 2, none⟩ = some (.string V) ∧ w'.cell? ⟨w5.heap.size, 0, none⟩ = some (.string N) ∧ w'.cell? ⟨w5.heap.size, 1, none⟩ = some (.slice A5 n c5) ∧ w'.cell? ⟨w5.heap.size, 2, none⟩ = some (.string V))
        (first | exact ⟨x0, x1, x2, z0, z1, z2⟩ | exact ⟨gr_cell hg67 x0, gr_cell hg67 x1, gr_cell hg67 x2, gr_cell hg67 z0, gr_cell hg67 z1, gr_cell hg67 z2⟩ | exact ⟨gr_cell hg68 x0, gr_cell hg68 x1, gr_cell hg68 x2, gr_cell hg68 z0, gr_cell hg68 z1, gr_cell hg68 z2⟩)
        (first
          | (go_at_call 18; refine (cO _ (by exact hQ6.gr (Gr.refl w6).drew)).mono ?_; rintro e w7 ⟨A7, c7, rfl, hP7, hg7⟩; have hg67 := (Gr.refl w6).drew.trans hg7)
          | (go_at_call 17; refine (cS _ A7 c7 (by exact hP7) (by exact hP6.gr hg67)).mono ?_; rintro e w8 ⟨rfl, hg8⟩; have hg68 := hg67.trans hg8))
      go_wp2
      go_ret
      exact ⟨rfl, hg16.trans hg68⟩
end Go.Proofs.YtpcmhaflmpcicaaDoor
