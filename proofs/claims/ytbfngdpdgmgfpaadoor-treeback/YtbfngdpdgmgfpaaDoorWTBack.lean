/- The walk of TreeBack. -/
import Derived.Test.YtbfngdpdgmgfpaaDoorMH
import Derived.Test.YtbfngdpdgmgfpaaDoorMG
namespace Go.Proofs.YtbfngdpdgmgfpaaDoor
open Go.RowKit

namespace Ln
theorem bk_size {t : Tr} (h : ptE t = 0) : ptT t = Fd.all (tx t) ∧ (ptT t).length ≤ 20000 ∧ fmT t = true := by
  have h1 : ptT t = Fd.all (tx t) := by unfold ptT; rw [if_pos h]
  refine ⟨h1, ?_⟩
  rw [h1]
  cases hf : fmT t with
  | false => rw [(pt_no hf).1] at h; cases h
  | true =>
    by_cases hl : lsE (tl t) = 0
    · rw [(pt_fold hf hl).1] at h
      unfold Fd.foldE at h
      split at h
      · cases h
      · split at h
        · cases h
        · rename_i h2
          unfold Fd.long at h2
          simp only [Bool.or_eq_true, decide_eq_true_eq, not_or] at h2
          refine ⟨by omega, rfl⟩
    · rw [(pt_line hf hl).1] at h; exact absurd h hl
theorem bk_none {t : Tr} (h : ptE t ≠ 0) : ptT t = [] := by unfold ptT; rw [if_neg h]
theorem prs_few {s : List UInt8} {t : Tr} (h : prs s = some t) : AllT (fun l => l.ps.length ≤ 100000) (fun _ => True) t := by
  unfold prs at h
  split at h
  · cases h
  · cases h1 : stK (Fd.unf s).1 with
    | none => rw [h1] at h; cases h
    | some x =>
      rw [h1] at h
      cases x with
      | op o => cases h
      | done u =>
        injection h with h
        subst h
        exact AllT.imp (fun l h => by unfold wt at h; have := wtPs_len l.ps; omega) (fun _ h => h) (stK_lp _ h1)
theorem AllT.and {P P' : Li → Prop} {Q Q' : Tr → Prop} {t : Tr} (h : AllT P Q t) : AllT P' Q' t → AllT P Q' t := by
  induction h with
  | mk t hq hl hk ih => exact fun h' => .mk t h'.q hl (fun u hu => ih u hu (h'.k u hu))
end Ln
set_option maxHeartbeats 8000000 in
set_option maxRecDepth 100000 in
theorem tback_any (k : Nat) (t : Ln.Tr) (A : Option Addr) (n c : Nat) (A2 : Option Addr) (n2 c2 : Nat) (w : World) (hT : Tab w) (hL : Lns w w.heap.size A n t.lines) (hK : Kds k w w.heap.size A2 n2 t.kids) (hR : Ln.RwT t) :
    Calls Tryd.prog 4 #[.agg #[.string ⟨t.name.toArray⟩, .slice A n c, .slice A2 n2 c2]] w fun e w' => e = .returned (.bool true) ∧ Gr w w' := by
  have cA := fun w (t : Tab w) => awake11_any w t
  have cF := fun w1 (h1 : Gr w w1) => few11_any k t A A2 n c n2 c2 w1 (hL.gr h1) (hK.gr h1) hR
  have cT := fun w1 (h1 : Gr w w1) => ttheirs_any k t A A2 n c n2 c2 _ w1 (Nat.le_refl _) (hL.gr h1) (hK.gr h1) (Ln.AllT.imp (fun _ h => h) (fun _ h => h.2) hR)
  have cP := fun (hf : (Ln.FitT t ∧ Ln.cnt t ≤ 150000) ∨ Ln.PW t) w1 B b B2 b2 (h1 : Gr w w1) (h2 : Lns w1 w1.heap.size B n t.lines) (h3 : Kds k w1 w1.heap.size B2 n2 t.kids) => tprint_any k t B B2 n b n2 b2 w1 (hT.keep h1) h2 h3 hR (hf.elim (fun h => h.1.pc) (fun h => h.pc)) (fun h => hf.elim (fun h => h.1) (fun h' => by have := h'.no; have := ((Ln.fmT_iff t).1 h).2.2; simp_all))
  have cS := fun w1 B b B2 b2 (h1 : Gr w w1) (h2 : Lns w1 w1.heap.size B n t.lines) (h3 : Kds 4 w1 w1.heap.size B2 n2 t.kids) => tsame_any 4 t t B A B2 A2 n b n c n2 b2 n2 c2 k w1 h2 (hL.gr h1) h3 (hK.gr h1) hR true ⟨fun _ => rfl, fun _ => rfl⟩
  have hg0 : Gr w (w.alloc (.cells #[.string ⟨t.name.toArray⟩, .slice A n c, .slice A2 n2 c2] 25)) := (Gr.refl w).allocO _
  have hx0 := Bx3.new w (.string ⟨t.name.toArray⟩) (.slice A n c) (.slice A2 n2 c2) 25
  have cO : Ln.ptE t = 0 → ∀ w1 B m b B2 m2 b2, Lns w1 w1.heap.size B m t.lines → Kds 4 w1 w1.heap.size B2 m2 t.kids → _ := fun hp w1 B m b B2 m2 b2 (h2 : Lns w1 w1.heap.size B m t.lines) (h3 : Kds 4 w1 w1.heap.size B2 m2 t.kids) =>
    tours_any 4 t B B2 m b m2 b2 _ w1 (Nat.le_refl _) h2 h3 ((Ln.prs_few (Ln.prs_back t hp)).and (P' := Ln.Rw) (Ln.AllT.imp (fun _ h => h) (fun _ h => h.2) hR))
  have cQ : Ln.ptE t = 0 → ∀ w3, Gr w w3 → _ := fun hp w3 (h3 : Gr w w3) => (tparse_any ⟨(Ln.ptT t).toArray⟩ w3 (hT.keep h3) (by rw [size_mk]; have := (Ln.bk_size hp).2.1; omega)).mono (R' := fun e w' => ∃ B1 e1 B2 e2, e = .returned (.tuple #[.agg #[.string ⟨t.name.toArray⟩, .slice B1 n e1, .slice B2 n2 e2], .int .i64 0, .int .i64 0]) ∧ Gr w3 w' ∧ Lns w' w'.heap.size B1 n t.lines ∧ Kds 4 w' w'.heap.size B2 n2 t.kids) (by
    have hpt := (Ln.bk_size hp).1
    have hbk := Ln.prs_back t hp
    rintro e w' (⟨t2, B1, m1, e1, B2, m2, e2, h1, h2, h3, h4, h5⟩ | ⟨h1, _⟩)
    · have h6 : Ln.prs (Ln.ptT t) = some t2 := h1
      rw [hpt, hbk] at h6
      injection h6 with h6
      subst h6
      obtain rfl : m1 = n := h4.1.symm.trans hL.1
      obtain rfl : m2 = n2 := h5.len.symm.trans hK.len
      exact ⟨B1, e1, B2, e2, h2, h3, h4, h5⟩
    · have h6 : Ln.prs (Ln.ptT t) = none := h1
      rw [hpt, hbk] at h6
      cases h6)
  have hem : Ln.ptE t ≠ 0 → (ByteArray.mk (Ln.ptT t).toArray) = ⟨#[]⟩ := fun h => by rw [Ln.bk_none h]
  obtain ⟨tn, htn⟩ : ∃ tn, tn = ByteArray.mk t.name.toArray := ⟨_, rfl⟩
  rw [← htn] at cF cT cP cS cO cQ hg0 hx0 ⊢
  clear htn
  go_enter Tryd.func4, Tryd.ntmps4
  go_wp2_with fail
  refine (cA _ (hT.keep hg0)).mono ?_
  rintro e w1 ⟨rfl, hg01⟩
  have hg1 := hg0.trans hg01
  have hx1 := hx0.gr hg01
  obtain ⟨x10, x11, x12, _, _, _⟩ := hx1
  go_wp2_with fail
  refine (cF _ hg1).mono ?_
  rintro e w2 ⟨b, rfl, hg2, hSm⟩
  have hg12 := hg1.trans hg2
  have hx2 := (hx0.gr hg01).gr hg2
  obtain ⟨x20, x21, x22, _, _, _⟩ := hx2
  cases b
  · go_wp2_with fail
    refine (cA _ (hT.keep hg12)).mono ?_
    rintro e w3 ⟨rfl, hg3⟩
    go_wp2
    go_ret
    exact ⟨rfl, hg12.trans hg3⟩
  · have cP := cP (hSm rfl)
    clear hSm
    go_wp2_with fail
    refine (cT _ hg12).mono ?_
    rintro e w3 ⟨B3, b3, C3, d3, rfl, hF3, hG3, hg3⟩
    have hg13 := hg12.trans hg3
    have hl3 := hF3.now
    have hk3 := hG3.now
    clear hF3 hG3
    go_wp2_with fail
    refine (cP _ _ _ _ _ hg13 hl3 hk3).mono ?_
    rintro e w4 ⟨rfl, hg4⟩
    have hg14 := hg13.trans hg4
    by_cases hp : Ln.ptE t = 0
    · have cO := cO hp
      have cQ := cQ hp
      rw [hp]
      clear hp hem cP
      generalize (ByteArray.mk (Ln.ptT t).toArray) = ub at *
      go_wp2_with fail
      refine (cQ _ hg14).mono ?_
      rintro e w5 ⟨B5, e5, C5, f5, rfl, hg5, hl5, hk5⟩
      have hg6 : Gr w5 (w5.alloc (.cells #[.string tn, .slice B5 n e5, .slice C5 n2 f5] 31)) := (Gr.refl w5).allocO _
      have hz6 := Bx3.new w5 (.string tn) (.slice B5 n e5) (.slice C5 n2 f5) 31
      have hx6 := ((((hx0.gr hg01).gr hg2).gr hg3).gr hg4).gr (hg5.trans hg6)
      have hg16 := (hg14.trans hg5).trans hg6
      have hl6 := hl5.gr hg6
      have hk6 := hk5.gr hg6
      clear x10 x11 x12 x20 x21 x22
      go_wp2_with fail
      generalize w5.alloc (.cells #[.string tn, .slice B5 n e5, .slice C5 n2 f5] 31) = w6 at *
      obtain ⟨x0, x1, x2, _, _, _⟩ := hx6
      obtain ⟨z0, z1, z2, _, _, _⟩ := hz6
      go_region_held3 (fun w' => w'.cell? ⟨w.heap.size, 0, none⟩ = some (.string tn) ∧ w'.cell? ⟨w.heap.size, 1, none⟩ = some (.slice A n c) ∧ w'.cell? ⟨w.heap.size, 2, none⟩ = some (.slice A2 n2 c2) ∧ w'.cell? ⟨w5.heap.size, 0, none⟩ = some (.string tn) ∧ w'.cell? ⟨w5.heap.size, 1, none⟩ = some (.slice B5 n e5) ∧ w'.cell? ⟨w5.heap.size, 2, none⟩ = some (.slice C5 n2 f5))
        (first | exact ⟨x0, x1, x2, z0, z1, z2⟩ | exact ⟨gr_cell hg67 x0, gr_cell hg67 x1, gr_cell hg67 x2, gr_cell hg67 z0, gr_cell hg67 z1, gr_cell hg67 z2⟩ | exact ⟨gr_cell hg68 x0, gr_cell hg68 x1, gr_cell hg68 x2, gr_cell hg68 z0, gr_cell hg68 z1, gr_cell hg68 z2⟩)
        (first
          | (go_at_call 18; refine (cO _ B5 n e5 C5 n2 f5 (by exact hl6.gr (Gr.refl w6).drew) (by exact hk6.gr (Gr.refl w6).drew)).mono ?_; rintro e w7 ⟨B7, b7, C7, d7, rfl, hF7, hG7, hg7⟩; have hg67 := (Gr.refl w6).drew.trans hg7)
          | (go_at_call 17; refine (cS _ B7 b7 C7 d7 (by exact hg16.trans hg67) (by exact hF7.now) (by exact hG7.now)).mono ?_; rintro e w8 ⟨rfl, hg8⟩; have hg68 := hg67.trans hg8))
      go_wp2
      go_ret
      exact ⟨rfl, hg16.trans hg68⟩
    · rw [hem hp]
      clear hem cP cQ cO
      generalize Ln.ptE t = E at *
      go_wp2
      go_ret
      exact ⟨rfl, hg14⟩
end Go.Proofs.YtbfngdpdgmgfpaaDoor
