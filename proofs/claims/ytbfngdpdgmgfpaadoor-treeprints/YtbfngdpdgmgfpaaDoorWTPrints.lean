/- The walk of TreePrints. -/
import Derived.Test.YtbfngdpdgmgfpaaDoorMH
import Derived.Test.YtbfngdpdgmgfpaaDoorMI
import Derived.Test.YtbfngdpdgmgfpaaDoorMG
namespace Go.Proofs.YtbfngdpdgmgfpaaDoor
open Go.RowKit

set_option maxHeartbeats 8000000 in
set_option maxRecDepth 100000 in
theorem tprints_any (k : Nat) (t : Ln.Tr) (A : Option Addr) (n c : Nat) (A2 : Option Addr) (n2 c2 : Nat) (w : World) (hT : Tab w) (hL : Lns w w.heap.size A n t.lines) (hK : Kds k w w.heap.size A2 n2 t.kids) (hR : Ln.RwT t) :
    Calls Tryd.prog 3 #[.agg #[.string ⟨t.name.toArray⟩, .slice A n c, .slice A2 n2 c2]] w fun e w' => e = .returned (.bool true) ∧ Gr w w' := by
  have cA := fun w (t : Tab w) => awake11_any w t
  have cF := fun w1 (h1 : Gr w w1) => few11_any k t A A2 n c n2 c2 w1 (hL.gr h1) (hK.gr h1) hR
  have cT := fun w1 (h1 : Gr w w1) => ttheirs_any k t A A2 n c n2 c2 _ w1 (Nat.le_refl _) (hL.gr h1) (hK.gr h1) (Ln.AllT.imp (fun _ h => h) (fun _ h => h.2) hR)
  have hpc : ((Ln.FitT t ∧ Ln.cnt t ≤ 150000) ∨ Ln.PW t) → Ln.PC t ∧ (Ln.fmT t = true → Ln.FitT t) ∧ (Ln.pf t = true → Ln.cnt t ≤ 1000000) := fun hf =>
    ⟨hf.elim (fun h => h.1.pc) (fun h => h.pc), fun h => hf.elim (fun h => h.1) (fun h' => by have := h'.no; have := ((Ln.fmT_iff t).1 h).2.2; simp_all), fun h => hf.elim (fun h => by omega) (fun h' => by have := h'.no; simp_all)⟩
  have hz1 : n * 56 ≤ 140737488355328 := by have := hR.q.2.1; have := hL.1; omega
  have hz2 : n2 * 64 ≤ 140737488355328 := by have := hR.q.2.2; have := hK.len; omega
  have hz3 : ∀ u ∈ t.kids, Ln.SzT u := fun u hu => Ln.RwT.sz (hR.k u hu)
  have cP := fun (hC : Ln.PC t) (hF : Ln.fmT t = true → Ln.FitT t) w1 B b B2 b2 (h1 : Gr w w1) (h2 : Lns w1 w1.heap.size B n t.lines) (h3 : Kds k w1 w1.heap.size B2 n2 t.kids) => tprint_any k t B B2 n b n2 b2 w1 (hT.keep h1) h2 h3 hR hC hF
  have cG := fun (hC : Ln.PC t) w1 B b B2 b2 (h1 : Gr w w1) (h2 : Lns w1 w1.heap.size B n t.lines) (h3 : Kds k w1 w1.heap.size B2 n2 t.kids) => tformed_any k t B B2 n b n2 b2 w1 (hT.keep h1) h2 h3 hR hC
  have cQ := fun (hF : Ln.fmT t = true → Ln.FitT t) (hb : Ln.pf t = true → Ln.cnt t ≤ 1000000) w1 (h1 : Gr w w1) => refpt_any k t A A2 n c n2 c2 w1 (hL.gr h1) (hK.gr h1) hR hb hF
  have cH := fun (hb : Ln.pf t = true → Ln.cnt t ≤ 1000000) w1 (h1 : Gr w w1) => rformed_any k t A A2 n c n2 c2 w1 (hL.gr h1) (hK.gr h1) hR hb
  have cI := fun w1 B b B2 b2 (h3 : Kds k w1 w1.heap.size B2 n2 t.kids) => count_w k ⟨t.name.toArray⟩ B B2 n b n2 b2 t.kids w1 h3 hz1 hz2 hz3
  have cJ := fun w1 (h1 : Gr w w1) => refcount_w k ⟨t.name.toArray⟩ A A2 n c n2 c2 t.kids w1 (hK.gr h1) hz1 hz2 hz3
  have hg0 : Gr w (w.alloc (.cells #[.string ⟨t.name.toArray⟩, .slice A n c, .slice A2 n2 c2] 25)) := (Gr.refl w).allocO _
  have hx0 := Bx3.new w (.string ⟨t.name.toArray⟩) (.slice A n c) (.slice A2 n2 c2) 25
  obtain ⟨tn, htn⟩ : ∃ tn, tn = ByteArray.mk t.name.toArray := ⟨_, rfl⟩
  rw [← htn] at cF cT cP cG cQ cH cI cJ hg0 hx0 ⊢
  clear htn hz1 hz2 hz3
  go_enter Tryd.func3, Tryd.ntmps3
  go_wp2_with fail
  refine (cA _ (hT.keep hg0)).mono ?_
  rintro e w1 ⟨rfl, hg01⟩
  have hg1 := hg0.trans hg01
  have hx1 := hx0.gr hg01
  obtain ⟨x10, x11, x12, _, _, _⟩ := hx1
  go_wp2_with fail
  refine (cF _ hg1).mono ?_
  rintro e w2 ⟨b, rfl, hg2, hSm⟩
  have hg12 := hg1.trans hg2
  have hx2 := (hx0.gr hg01).gr hg2
  obtain ⟨x20, x21, x22, _, _, _⟩ := hx2
  cases b
  · go_wp2_with fail
    refine (cA _ (hT.keep hg12)).mono ?_
    rintro e w3 ⟨rfl, hg3⟩
    go_wp2
    go_ret
    exact ⟨rfl, hg12.trans hg3⟩
  · obtain ⟨h1, h2, h3⟩ := hpc (hSm rfl)
    replace cP := cP h1 h2
    replace cG := cG h1
    replace cQ := cQ h2 h3
    replace cH := cH h3
    clear hSm hpc h1 h2 h3
    generalize (ByteArray.mk (Ln.ptT t).toArray) = TB at *
    generalize Ln.ptE t = E at *
    generalize Ln.fmT t = fm at *
    generalize wrap64 ((n + 2 + Ln.cnts t.kids : Nat) : Int) = cn at *
    have hs1 : (TB.toList == TB.toList) = true := str_eq ⟨fun _ => rfl, fun _ => rfl⟩
    have hs2 : (E == E) = true := by simp
    have hs3 : (fm == fm) = true := by cases fm <;> rfl
    have hs4 : (cn == cn) = true := by simp
    go_wp2_with fail
    refine (cT _ hg12).mono ?_
    rintro e w3 ⟨B3, b3, C3, d3, rfl, hF3, hG3, hg3⟩
    have hl3 := hF3.now
    have hk3 := hG3.now
    clear hF3 hG3
    have hg4 : Gr w3 (w3.alloc (.cells #[.string tn, .slice B3 n b3, .slice C3 n2 d3] 31)) := (Gr.refl w3).allocO _
    have hy4 := Bx3.new w3 (.string tn) (.slice B3 n b3) (.slice C3 n2 d3) 31
    have hg13 := (hg12.trans hg3).trans hg4
    have hl4 := hl3.gr hg4
    have hk4 := hk3.gr hg4
    have hx4 := (((hx0.gr hg01).gr hg2).gr hg3).gr hg4
    clear x10 x11 x12 x20 x21 x22 hl3 hk3
    go_wp2_with fail
    refine (cP _ _ _ _ _ hg13 hl4 hk4).mono ?_
    rintro e w5 ⟨rfl, hg5⟩
    have hg15 := hg13.trans hg5
    have hx5 := hx4.gr hg5
    have HX5 := Lib.hid hx5
    obtain ⟨x0, x1, x2, _, _, _⟩ := hx5
    go_wp2_with fail
    refine (cQ _ hg15).mono ?_
    rintro e w6 ⟨rfl, hg6⟩
    have hg16 := hg15.trans hg6
    have hx6 := HX5.out.gr hg6
    have hy6 := (hy4.gr hg5).gr hg6
    have hl6 := (hl4.gr hg5).gr hg6
    have hk6 := (hk4.gr hg5).gr hg6
    clear x0 x1 x2
    obtain ⟨x0, x1, x2, _, _, _⟩ := hx6
    obtain ⟨y0, y1, y2, _, _, _⟩ := hy6
    go_wp2_with fail
    go_region_held3 (fun w' => w'.cell? ⟨w.heap.size, 0, none⟩ = some (.string tn) ∧ w'.cell? ⟨w.heap.size, 1, none⟩ = some (.slice A n c) ∧ w'.cell? ⟨w.heap.size, 2, none⟩ = some (.slice A2 n2 c2) ∧ w'.cell? ⟨w3.heap.size, 0, none⟩ = some (.string tn) ∧ w'.cell? ⟨w3.heap.size, 1, none⟩ = some (.slice B3 n b3) ∧ w'.cell? ⟨w3.heap.size, 2, none⟩ = some (.slice C3 n2 d3))
      (first
        | exact ⟨gr_cell kg4 x0, gr_cell kg4 x1, gr_cell kg4 x2, gr_cell kg4 y0, gr_cell kg4 y1, gr_cell kg4 y2⟩
        | exact ⟨gr_cell kg3 x0, gr_cell kg3 x1, gr_cell kg3 x2, gr_cell kg3 y0, gr_cell kg3 y1, gr_cell kg3 y2⟩
        | exact ⟨gr_cell kg2 x0, gr_cell kg2 x1, gr_cell kg2 x2, gr_cell kg2 y0, gr_cell kg2 y1, gr_cell kg2 y2⟩
        | exact ⟨gr_cell kg1 x0, gr_cell kg1 x1, gr_cell kg1 x2, gr_cell kg1 y0, gr_cell kg1 y1, gr_cell kg1 y2⟩
        | exact ⟨x0, x1, x2, y0, y1, y2⟩)
      (first
        | (go_at_call 15; have _t := kg3; refine (cJ _ (by exact hg16.trans kg3)).mono ?_; rintro e v4 ⟨rfl, g4⟩; have kg4 := kg3.trans g4)
        | (go_at_call 14; have _t := kg2; refine (cI _ B3 b3 C3 d3 (by exact hk6.gr kg2)).mono ?_; rintro e v3 ⟨rfl, g3⟩; have kg3 := kg2.trans g3)
        | (go_at_call 13; have _t := kg1; refine (cH _ (by exact hg16.trans kg1)).mono ?_; rintro e v2 ⟨rfl, g2⟩; have kg2 := kg1.trans g2)
        | (go_at_call 12; refine (cG _ B3 b3 C3 d3 (by exact hg16.trans (Gr.refl w6).drew) (by exact hl6.gr (Gr.refl w6).drew) (by exact hk6.gr (Gr.refl w6).drew)).mono ?_; rintro e v1 ⟨rfl, g1⟩; have kg1 := (Gr.refl w6).drew.trans g1))
    go_wp2
    go_ret
    exact ⟨rfl, hg16.trans kg4⟩
end Go.Proofs.YtbfngdpdgmgfpaaDoor
