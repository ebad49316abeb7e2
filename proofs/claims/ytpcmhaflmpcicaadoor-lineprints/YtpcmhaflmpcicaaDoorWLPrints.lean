/- The walk of LinePrints. -/
import Derived.Test.YtpcmhaflmpcicaaDoorLnAw
import Derived.Test.YtpcmhaflmpcicaaDoorLnPrint
import Derived.Test.YtpcmhaflmpcicaaDoorLnRefP
import Derived.Test.YtpcmhaflmpcicaaDoorLnFew
import Derived.Test.YtpcmhaflmpcicaaDoorLnTheirs
namespace Go.Proofs.YtpcmhaflmpcicaaDoor
open Go.RowKit

set_option maxHeartbeats 8000000 in
set_option maxRecDepth 100000 in
theorem lprints_any (N V : ByteArray) (A : Option Addr) (n c : Nat) (ps : List Ln.Par) (w : World) (ht : Tab w) (hN : N.size ≤ 140737488355328) (hV : V.size ≤ 140737488355328) (hP : Pars w w.heap.size A n ps) (hn : n * 40 ≤ 140737488355328)
    (hp1 : ∀ p ∈ ps, p.1.length ≤ 140737488355328) (hp2 : ∀ p ∈ ps, p.2.length * 16 ≤ 140737488355328) (hp3 : ∀ p ∈ ps, ∀ v ∈ p.2, v.length ≤ 140737488355328) :
    Calls Tryd.prog 3 #[.agg #[.string N, .slice A n c, .string V]] w fun e w' => e = .returned (.bool true) ∧ Gr w w' := by
  have cA := fun w (t : Tab w) => awake10_any w t
  have hp2' : ∀ p ∈ ps, p.2.length ≤ 140737488355328 := fun p hp => by have := hp2 p hp; omega
  have cF := fun w (p : Pars w w.heap.size A n ps) => few10_any N V A n c ps w p hN hV (by omega) hp1 hp2' hp3
  have cT := fun w (p : Pars w w.heap.size A n ps) => theirs_any N V A n c ps w p hn hp2
  have hg0 : Gr w (w.alloc (.cells #[.string N, .slice A n c, .string V] 24)) := (Gr.refl w).allocO _
  have hx0 := Bx3.new w (.string N) (.slice A n c) (.string V) 24
  go_enter Tryd.func3, Tryd.ntmps3
  go_wp2_with fail
  refine (cA _ (ht.keep hg0)).mono ?_
  rintro e w1 ⟨rfl, hg01⟩
  have hg1 := hg0.trans hg01
  have hx1 := hx0.gr hg01
  obtain ⟨x10, x11, x12, _, _, _⟩ := hx1
  go_wp2_with fail
  refine (cF _ (hP.gr hg1)).mono ?_
  rintro e w2 ⟨b, rfl, hg2, hSm⟩
  have hg12 := hg1.trans hg2
  have hx2 := (hx0.gr hg01).gr hg2
  obtain ⟨x20, x21, x22, _, _, _⟩ := hx2
  cases b
  · go_wp2_with fail
    refine (cA _ (ht.keep hg12)).mono ?_
    rintro e w3 ⟨rfl, hg3⟩
    go_wp2
    go_ret
    exact ⟨rfl, hg12.trans hg3⟩
  · have hsm := hSm rfl
    clear hSm
    have hsz : Ln.formed ⟨N.data.toList, ps, V.data.toList⟩ = true → N.size + V.size + Ln.wtPs ps ≤ 5000 := fun hf => by
      have h := Ln.Sm.formed (a := N.data.toList) (b := V.data.toList) (by rw [← Lib.size_eq, ← Lib.size_eq]; exact hsm) hf
      rw [Lib.size_eq, Lib.size_eq]; omega
    have cP := fun w A2 c2 (t : Tab w) (p : Pars w w.heap.size A2 n ps) (hnc : n ≤ c2) => print_any N V A2 n c2 ps w t p hnc hsm.calm hp2' hV (fun hf => by have := hsz hf; omega)
    have cQ := fun w (p : Pars w w.heap.size A n ps) => refprint_any N V A n c ps w p hN hV hp1 hp2' hp3 hsz
    have cG := fun w A2 c2 (t : Tab w) (p : Pars w w.heap.size A2 n ps) (hnc : n ≤ c2) => formed_any N V A2 n c2 ps w t p hnc hsm.calm hp2' hV
    have cH := fun w (p : Pars w w.heap.size A n ps) => refformed_any N V A n c ps w p hN hV hp1 hp2' hp3
    have cI := fun w => lname_any N w
    have cJ := fun w => refname_any N w hN
    clear hsz
    generalize Ln.prT ⟨N.data.toList, ps, V.data.toList⟩ = T at *
    generalize Ln.prE ⟨N.data.toList, ps, V.data.toList⟩ = E at *
    generalize Ln.formed ⟨N.data.toList, ps, V.data.toList⟩ = fm at *
    generalize Ln.nameB N.data.toList = nb at *
    generalize (ByteArray.mk T.toArray) = TB at *
    have hs1 : (TB.toList == TB.toList) = true := str_eq ⟨fun _ => rfl, fun _ => rfl⟩
    have hs2 : (E == E) = true := by simp
    have hs3 : (fm == fm) = true := by cases fm <;> rfl
    have hs4 : (nb == nb) = true := by cases nb <;> rfl
    go_wp2_with fail
    refine (cT _ (hP.gr hg12)).mono ?_
    rintro e w3 ⟨A2, c2, rfl, hP3, hnc, hg3⟩
    have hg13 := hg12.trans hg3
    go_wp2_with fail
    refine (cP _ A2 c2 (ht.keep hg13) hP3 hnc).mono ?_
    rintro e w4 ⟨rfl, hg4⟩
    have hg14 := hg13.trans hg4
    have hx4 := (((hx0.gr hg01).gr hg2).gr hg3).gr hg4
    have HX4 := Lib.hid hx4
    obtain ⟨x40, x41, x42, _, _, _⟩ := hx4
    clear x10 x11 x12 x20 x21 x22
    go_wp2_with fail
    refine (cQ _ (hP.gr hg14)).mono ?_
    rintro e w5 ⟨rfl, hg5⟩
    have hg15 := hg14.trans hg5
    have hx5 := HX4.out.gr hg5
    obtain ⟨x0, x1, x2, _, _, _⟩ := hx5
    clear x40 x41 x42
    have hP5 := hP.gr hg15
    have ht5 := ht.keep hg15
    go_wp2_with fail
    go_region_held3 (fun w' => w'.cell? ⟨w.heap.size, 0, none⟩ = some (.string N) ∧ w'.cell? ⟨w.heap.size, 1, none⟩ = some (.slice A n c) ∧ w'.cell? ⟨w.heap.size, 2, none⟩ = some (.string V))
      (first
        | exact ⟨gr_cell kg3 x0, gr_cell kg3 x1, gr_cell kg3 x2⟩
        | exact ⟨gr_cell kg2 x0, gr_cell kg2 x1, gr_cell kg2 x2⟩
        | exact ⟨gr_cell kg1 x0, gr_cell kg1 x1, gr_cell kg1 x2⟩
        | exact ⟨x0, x1, x2⟩)
      (first
        | (go_at_call 15; have _t := kg3; refine (cJ _).mono ?_; rintro e v5 ⟨rfl, rfl⟩)
        | (go_at_call 14; have _t := kg3; refine (cI _).mono ?_; rintro e v4 ⟨rfl, rfl⟩)
        | (go_at_call 13; have _t := kg2; refine (cH _ (by exact hP5.gr kg2)).mono ?_; rintro e v3 ⟨rfl, g3⟩; have kg3 := kg2.trans g3)
        | (go_at_call 12; have _t := kg1; refine (cG _ B1 b1 (by exact ht5.keep kg1) (by exact j1) (by exact l1)).mono ?_; rintro e v2 ⟨rfl, g2⟩; have kg2 := kg1.trans g2)
        | (go_at_call 10; refine (cT _ (by exact hP5.gr (Gr.refl w5).drew)).mono ?_; rintro e v1 ⟨B1, b1, rfl, j1, l1, g1⟩; have kg1 := (Gr.refl w5).drew.trans g1))
    go_wp2
    go_ret
    exact ⟨rfl, hg15.trans kg3⟩
end Go.Proofs.YtpcmhaflmpcicaaDoor
