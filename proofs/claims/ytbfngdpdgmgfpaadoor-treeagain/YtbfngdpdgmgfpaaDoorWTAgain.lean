/- The walk of TreeAgain. -/
import Derived.Test.YtbfngdpdgmgfpaaDoorMH
import Derived.Test.YtbfngdpdgmgfpaaDoorMG
namespace Go.Proofs.YtbfngdpdgmgfpaaDoor
open Go.RowKit

namespace Ln
theorem pt_size {t : Tr} (h : ptE t = 0) : ptT t = Fd.all (tx t) ∧ (ptT t).length ≤ 20000 := by
  have h1 : ptT t = Fd.all (tx t) := by unfold ptT; rw [if_pos h]
  refine ⟨h1, ?_⟩
  rw [h1]
  cases hf : fmT t with
  | false => rw [(pt_no hf).1] at h; cases h
  | true =>
    by_cases hl : lsE (tl t) = 0
    · rw [(pt_fold hf hl).1] at h
      unfold Fd.foldE at h
      split at h
      · cases h
      · split at h
        · cases h
        · rename_i h2
          unfold Fd.long at h2
          simp only [Bool.or_eq_true, decide_eq_true_eq, not_or] at h2
          omega
    · rw [(pt_line hf hl).1] at h; exact absurd h hl
theorem pt_none {t : Tr} (h : ptE t ≠ 0) : ptT t = [] := by unfold ptT; rw [if_neg h]
end Ln
set_option maxHeartbeats 8000000 in
set_option maxRecDepth 100000 in
theorem tagain_any (s : ByteArray) (w : World) (hT : Tab w) (hs : s.size ≤ 140737488355328) :
    Calls Tryd.prog 5 #[.string s] w fun e w' => e = .returned (.bool true) ∧ Gr w w' := by
  have cA := fun w (t : Tab w) => awake11_any w t
  by_cases hlong : 30000 < s.size
  · have hli : (30000 : Int) < (s.size : Int) := by omega
    go_enter Tryd.func5, Tryd.ntmps5
    go_wp2_with fail
    refine (cA _ hT).mono ?_
    rintro e w1 ⟨rfl, hg1⟩
    go_wp2_with fail
    refine (cA _ (hT.keep hg1)).mono ?_
    rintro e w2 ⟨rfl, hg2⟩
    go_wp2
    go_ret
    exact ⟨rfl, hg1.trans hg2⟩
  · have hli : ¬ (30000 : Int) < (s.size : Int) := by omega
    go_enter Tryd.func5, Tryd.ntmps5
    go_wp2_with fail
    refine (cA _ hT).mono ?_
    rintro e w1 ⟨rfl, hg1⟩
    have cP := tparse_any s w1 (hT.keep hg1) (by omega)
    go_wp2_with fail
    refine cP.mono ?_
    rintro e w2 (⟨t, A1, n1, c1, A2, n2, c2, hpr, rfl, hg2, hl2, hk2⟩ | ⟨hpr, E, m, rfl, hE, hg2⟩)
    · have hfm := Ln.prs_good hpr
      have hft := Ln.prs_fit hpr
      have hT2 := (hT.keep hg1).keep hg2
      have hg3 : Gr w2 (w2.alloc (.cells #[.string ⟨t.name.toArray⟩, .slice A1 n1 c1, .slice A2 n2 c2] 31)) := (Gr.refl w2).allocO _
      have hx3 := Bx3.new w2 (.string ⟨t.name.toArray⟩) (.slice A1 n1 c1) (.slice A2 n2 c2) 31
      have cT := tprint_any 4 t A1 A2 n1 c1 n2 c2 _ (hT2.keep hg3) (hl2.gr hg3) (hk2.gr hg3) hft.rw hft.pc (fun _ => hft)
      have cF := fun w1 (h1 : Gr w2 w1) => tformed_any 4 t A1 A2 n1 c1 n2 c2 w1 (hT2.keep h1) (hl2.gr h1) (hk2.gr h1) hft.rw hft.pc
      rw [hfm] at cF
      rcases Ln.ptE_cases t hfm with hp | hp
      · obtain ⟨hpt, hpl⟩ := Ln.pt_size hp
        have hbk := Ln.prs_back t hp
        have HBK := Lib.hid hbk
        have cQ := fun w3 (h3 : Gr w2 w3) => (tparse_any ⟨(Ln.ptT t).toArray⟩ w3 (hT2.keep h3) (by rw [size_mk]; omega)).mono (R' := fun e w' => ∃ B1 m1 e1 B2 m2 e2, e = .returned (.tuple #[.agg #[.string ⟨t.name.toArray⟩, .slice B1 m1 e1, .slice B2 m2 e2], .int .i64 0, .int .i64 0]) ∧ Gr w3 w' ∧ Lns w' w'.heap.size B1 m1 t.lines ∧ Kds 4 w' w'.heap.size B2 m2 t.kids) (by
          rintro e w' (⟨t2, B1, m1, e1, B2, m2, e2, h1, h2, h3, h4, h5⟩ | ⟨h1, _⟩)
          · have h6 : Ln.prs (Ln.ptT t) = some t2 := h1
            rw [hpt, hbk] at h6
            injection h6 with h6
            subst h6
            exact ⟨B1, m1, e1, B2, m2, e2, h2, h3, h4, h5⟩
          · have h6 : Ln.prs (Ln.ptT t) = none := h1
            rw [hpt, hbk] at h6
            cases h6)
        have cE := fun B1 m1 e1 B2 m2 e2 w3 (h1 : Gr w2 w3) (h2 : Lns w3 w3.heap.size B1 m1 t.lines) (h3 : Kds 4 w3 w3.heap.size B2 m2 t.kids) => tequal_any 4 t t A1 B1 A2 B2 n1 c1 m1 e1 n2 c2 m2 e2 4 w3 (hl2.gr h1) h2 (hk2.gr h1) h3 hft.rw true ⟨fun _ => rfl, fun _ => rfl⟩
        rw [hp] at cT
        clear hpt hpl hbk hp hfm hpr HBK hft
        generalize (ByteArray.mk (Ln.ptT t).toArray) = ub at *
        obtain ⟨tn, htn⟩ : ∃ tn, tn = ByteArray.mk t.name.toArray := ⟨_, rfl⟩
        rw [← htn] at cT cF cQ cE hg3 hx3 ⊢
        clear htn
        go_wp2_with fail
        refine cT.mono ?_
        rintro e w4 ⟨rfl, hg4⟩
        have hg34 := hg3.trans hg4
        go_wp2_with fail
        refine (cQ _ hg34).mono ?_
        rintro e w5 ⟨B1, m1, e1, B2, m2, e2, rfl, hg5, hl5, hk5⟩
        have hg6 : Gr w5 (w5.alloc (.cells #[.string tn, .slice B1 m1 e1, .slice B2 m2 e2] 31)) := (Gr.refl w5).allocO _
        have hx6 := Bx3.new w5 (.string tn) (.slice B1 m1 e1) (.slice B2 m2 e2) 31
        have hy6 := ((hx3.gr hg4).gr hg5).gr hg6
        have hg26 := (hg34.trans hg5).trans hg6
        have hl6 := hl5.gr hg6
        have hk6 := hk5.gr hg6
        obtain ⟨y0, y1, y2, _, _, _⟩ := hy6
        have hb3 := hx3.gr hg4
        obtain ⟨u0, u1, u2, _, _, _⟩ := hb3
        go_wp2_with fail
        refine (cF _ hg26).mono ?_
        rintro e w7 ⟨rfl, hg7⟩
        have hy7 := (((hx3.gr hg4).gr hg5).gr hg6).gr hg7
        have hx7 := hx6.gr hg7
        obtain ⟨v0, v1, v2, _, _, _⟩ := hy7
        obtain ⟨z0, z1, z2, _, _, _⟩ := hx7
        go_wp2_with fail
        refine (cE B1 m1 e1 B2 m2 e2 _ (hg26.trans hg7) (hl6.gr hg7) (hk6.gr hg7)).mono ?_
        rintro e w8 ⟨rfl, hg8⟩
        go_wp2
        go_ret
        exact ⟨rfl, ((hg1.trans hg2).trans hg26).trans (hg7.trans hg8)⟩
      · have hpt := Ln.pt_none (t := t) (by rw [hp]; decide)
        rw [hp, hpt] at cT
        have cQ := fun w3 (h3 : Gr w2 w3) => (tparse_any ⟨([] : List UInt8).toArray⟩ w3 (hT2.keep h3) (by rw [size_mk]; simp)).mono (R' := fun e w' => ∃ (N : ByteArray) (B1 : Option Addr) (m1 e1 : Nat) (B2 : Option Addr) (m2 e2 : Nat) (m E : Int), e = .returned (.tuple #[.agg #[.string N, .slice B1 m1 e1, .slice B2 m2 e2], .int .i64 m, .int .i64 E]) ∧ Gr w3 w') (by
          rintro e w' (⟨t2, B1, m1, e1, B2, m2, e2, h1, h2, h3, h4, h5⟩ | ⟨h1, E, m, h2, h3, h4⟩)
          · exact ⟨_, B1, m1, e1, B2, m2, e2, _, _, h2, h3⟩
          · exact ⟨_, _, _, _, _, _, _, m, E, h2, h4⟩)
        have e0 : (ByteArray.mk ([] : List UInt8).toArray) = ⟨#[]⟩ := rfl
        rw [e0] at cT cQ
        clear hpt hp hfm hpr hft
        obtain ⟨tn, htn⟩ : ∃ tn, tn = ByteArray.mk t.name.toArray := ⟨_, rfl⟩
        rw [← htn] at cT cF hg3 hx3 ⊢
        clear htn
        go_wp2_with fail
        refine cT.mono ?_
        rintro e w4 ⟨rfl, hg4⟩
        have hg34 := hg3.trans hg4
        go_wp2_with fail
        refine (cQ _ hg34).mono ?_
        rintro e w5 ⟨N, B1, m1, e1, B2, m2, e2, m, E, rfl, hg5⟩
        have hg6 : Gr w5 (w5.alloc (.cells #[.string N, .slice B1 m1 e1, .slice B2 m2 e2] 31)) := (Gr.refl w5).allocO _
        have hy6 := ((hx3.gr hg4).gr hg5).gr hg6
        have hg26 := (hg34.trans hg5).trans hg6
        obtain ⟨y0, y1, y2, _, _, _⟩ := hy6
        go_wp2_with fail
        refine (cF _ hg26).mono ?_
        rintro e w7 ⟨rfl, hg7⟩
        go_wp2
        go_ret
        exact ⟨rfl, ((hg1.trans hg2).trans hg26).trans hg7⟩
    · clear hpr
      go_wp2
      go_ret
      exact ⟨rfl, hg1.trans (hg2.allocO _)⟩
end Go.Proofs.YtbfngdpdgmgfpaaDoor
