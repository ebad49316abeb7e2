/- What the laws' Ours returns, whatever the number of parameters. -/
import Derived.Test.YtbfngdpdgmgfpaaDoorMD
namespace Go.Proofs.YtbfngdpdgmgfpaaDoor
open Go.RowKit

set_option maxHeartbeats 4000000 in
set_option maxRecDepth 100000 in
theorem ours_wd (N V : ByteArray) (A : Option Addr) (n c : Nat) (ps : List Ln.Par) (w : World) (B : Nat) (hB : B ≤ w.heap.size) (hP : Pars w B A n ps) (hn : n * 40 ≤ 140737488355328) :
    Calls Tryd.prog 23 #[.agg #[.string N, .slice A n c, .string V]] w fun e w' => ∃ A2 c2, e = .returned (.agg #[.string N, .slice A2 n c2, .string V]) ∧ Fp (fun x => x < B ∨ w.heap.size ≤ x) w' (fun v => Pars v v.heap.size A2 n ps) ∧ n ≤ c2 ∧ Gr w w' := by
  have HL := Lib.hid hP.1
  have hg0 : Gr w (((w.alloc (.cells #[.string N, .slice A n c, .string V] 48)).alloc (.cells #[.string ⟨#[]⟩, .slice none 0 0, .string ⟨#[]⟩] 53)).alloc (.cells #[.string N, .slice none 0 0, .string V] 53)) := (((Gr.refl w).allocO _).allocO _).allocO _
  have hb1 := ((Bx3.new w (.string N) (.slice A n c) (.string V) 48).gr ((Gr.refl _).allocO (.cells #[.string ⟨#[]⟩, .slice none 0 0, .string ⟨#[]⟩] 53))).gr ((Gr.refl _).allocO (.cells #[.string N, .slice none 0 0, .string V] 53))
  have hb2 := (Bx3.new (w.alloc (.cells #[.string N, .slice A n c, .string V] 48)) (.string ⟨#[]⟩) (.slice none 0 0) (.string ⟨#[]⟩) 53).gr ((Gr.refl _).allocO (.cells #[.string N, .slice none 0 0, .string V] 53))
  have hb3 := Bx3.new ((w.alloc (.cells #[.string N, .slice A n c, .string V] 48)).alloc (.cells #[.string ⟨#[]⟩, .slice none 0 0, .string ⟨#[]⟩] 53)) (.string N) (.slice none 0 0) (.string V) 53
  have z1 : (w.alloc (.cells #[.string N, .slice A n c, .string V] 48)).heap.size = w.heap.size + 1 := by simp
  have z2 : ((w.alloc (.cells #[.string N, .slice A n c, .string V] 48)).alloc (.cells #[.string ⟨#[]⟩, .slice none 0 0, .string ⟨#[]⟩] 53)).heap.size = w.heap.size + 2 := by simp
  have z3 : (((w.alloc (.cells #[.string N, .slice A n c, .string V] 48)).alloc (.cells #[.string ⟨#[]⟩, .slice none 0 0, .string ⟨#[]⟩] 53)).alloc (.cells #[.string N, .slice none 0 0, .string V] 53)).heap.size = w.heap.size + 3 := by simp
  rw [z1] at hb2
  rw [z2] at hb3
  clear z1 z2
  go_enter Tryd.func23, Tryd.ntmps23
  go_wp2
  generalize (((w.alloc (.cells #[.string N, .slice A n c, .string V] 48)).alloc (.cells #[.string ⟨#[]⟩, .slice none 0 0, .string ⟨#[]⟩] 53)).alloc (.cells #[.string N, .slice none 0 0, .string V] 53)) = w0 at *
  go_loopg [13] n (fun g v13 wx => ∃ A2 c2, ∃ k : Nat, v13 = .int .i64 (k : Int) ∧ k + g = n ∧ Mv (w.heap.size + 2) w0 wx ∧ Bx3 wx (w.heap.size + 2) (.string N) (.slice A2 k c2) (.string V) ∧ PRow wx (w.heap.size + 3) (fun x => x < B) 81 A2 k c2 (ps.take k))
  case atStart => exact ⟨_, _, 0, rfl, by omega, Mv.refl _ _, hb3, by simpa using PRow.nil _ _ _ _⟩
  case round =>
    obtain ⟨A2, c2, k, rfl, hkg, hmv, hb3x, hrow⟩ := hrel
    have HG := Lib.hid hkg
    clear hkg
    have hszx : w.heap.size + 3 ≤ wr.heap.size := by have := hmv.lt; omega
    by_cases hk : k < n
    · obtain ⟨ad, hk', rfl, hblB, hc0', A', n', c', hc1', hS⟩ := hP.at_ hk
      have hbl : ad.block < w.heap.size := by omega
      have hgb : Below w.heap.size w wr := hg0.below.trans (hmv.low (by omega) (by omega))
      have hc0 := (hgb.cell (p := ad.add (k * 2)) (by rw [add_block]; exact hbl)).trans hc0'
      have hc1 := (hgb.cell (p := ⟨(ad.add (k * 2)).block, (ad.add (k * 2)).off + 1, none⟩) (by show (ad.add (k * 2)).block < _; rw [add_block]; exact hbl)).trans hc1'
      have hb1x := hb1.mv hmv (by omega)
      have hb2x := hb2.mv hmv (by omega)
      have hSx : Strs wr wr.heap.size A' n' ps[k].2 := (hS.keep (hgb.mono hB)).more (by omega)
      have hown := hrow.own
      have hv : 0 < n' → ∀ a, A' = some a → a.block < B ∧ (Value.slice A2 k c2).ownBlock ≠ some a.block := fun h0 a ha => by
        obtain ⟨a', ha', hb', _⟩ := hS.2 h0
        rw [ha] at ha'
        injection ha' with ha'
        subst ha'
        exact ⟨hb', fun e => by have := (hown _ e).1; omega⟩
      have d31 := hb3x.c1
      have d11 := hb1x.c1
      have f31 := hb3x.f1
      have HTK := Lib.hid (List.take_succ_eq_append_getElem hk')
      have hkn : (k : Int) < (n : Int) := by omega
      clear hc0' hc1'
      go_wp2_with fail
      have hS : (fun w' : World => w'.cell? ⟨w.heap.size + 2, 1, none⟩ = some (.slice A2 k c2) ∧ w'.cell? ⟨w.heap.size, 1, none⟩ = some (.slice (some ad) n c) ∧ w'.cell? (ad.add (k * 2)) = some (.string ⟨ps[k].1.toArray⟩) ∧ w'.cell? ⟨(ad.add (k * 2)).block, (ad.add (k * 2)).off + 1, none⟩ = some (.slice A' n' c')) wr.drew := ⟨d31, d11, hc0, hc1⟩
      refine wp_region_last 10 11 (fun w' : World => w'.cell? ⟨w.heap.size + 2, 1, none⟩ = some (.slice A2 k c2) ∧ w'.cell? ⟨w.heap.size, 1, none⟩ = some (.slice (some ad) n c) ∧ w'.cell? (ad.add (k * 2)) = some (.string ⟨ps[k].1.toArray⟩) ∧ w'.cell? ⟨(ad.add (k * 2)).block, (ad.add (k * 2)).off + 1, none⟩ = some (.slice A' n' c')) (by kernel_rfl) rfl ?_
      refine Wk.take (i := 0) (v := ?_) (at_lit rfl) (at_lit rfl) (by kernel_rfl) (by kernel_rfl) (by kernel_rfl) (by kernel_rfl) rfl (fun _ _ _ h => h) ?_ hS ?_
      rotate_left 1
      · intro w' hSw
        obtain ⟨s0, s1, s2, s3⟩ := hSw
        go_simp
        first | done | rfl
      simp only [Act.put, List.setIfInBounds_toArray, List.set_cons_zero, List.set_cons_succ]
      refine Wk.take (i := 1) (v := ?_) (at_lit rfl) (at_lit rfl) (by kernel_rfl) (by kernel_rfl) (by kernel_rfl) (by kernel_rfl) rfl (fun _ _ _ h => h) ?_ hS ?_
      rotate_left 1
      · intro w' hSw
        obtain ⟨s0, s1, s2, s3⟩ := hSw
        go_simp
        first | done | rfl
      simp only [Act.put, List.setIfInBounds_toArray, List.set_cons_zero, List.set_cons_succ]
      refine Wk.take (i := 2) (v := ?_) (at_lit rfl) (at_lit rfl) (by kernel_rfl) (by kernel_rfl) (by kernel_rfl) (by kernel_rfl) rfl (fun _ _ _ h => h) ?_ hS ?_
      rotate_left 1
      · intro w' hSw
        obtain ⟨s0, s1, s2, s3⟩ := hSw
        go_simp
        first | done | rfl
      simp only [Act.put, List.setIfInBounds_toArray, List.set_cons_zero, List.set_cons_succ]
      refine Wk.take (i := 3) (v := ?_) (at_lit rfl) (at_lit rfl) (by kernel_rfl) (by kernel_rfl) (by kernel_rfl) (by kernel_rfl) rfl (fun _ _ _ h => h) ?_ hS ?_
      rotate_left 1
      · intro w' hSw
        obtain ⟨s0, s1, s2, s3⟩ := hSw
        go_simp
        first | done | rfl
      simp only [Act.put, List.setIfInBounds_toArray, List.set_cons_zero, List.set_cons_succ]
      refine Wk.take (i := 4) (v := ?_) (at_lit rfl) (at_lit rfl) (by kernel_rfl) (by kernel_rfl) (by kernel_rfl) (by kernel_rfl) rfl (fun _ _ _ h => h) ?_ hS ?_
      rotate_left 1
      · intro w' hSw
        obtain ⟨s0, s1, s2, s3⟩ := hSw
        go_simp
        first | done | rfl
      simp only [Act.put, List.setIfInBounds_toArray, List.set_cons_zero, List.set_cons_succ]
      refine Wk.take (i := 5) (v := ?_) (at_lit rfl) (at_lit rfl) (by kernel_rfl) (by kernel_rfl) (by kernel_rfl) (by kernel_rfl) rfl (fun _ _ _ h => h) ?_ hS ?_
      rotate_left 1
      · intro w' hSw
        obtain ⟨s0, s1, s2, s3⟩ := hSw
        go_simp
        first | done | rfl
      simp only [Act.put, List.setIfInBounds_toArray, List.set_cons_zero, List.set_cons_succ]
      refine Wk.take (i := 6) (v := ?_) (at_lit rfl) (at_lit rfl) (by kernel_rfl) (by kernel_rfl) (by kernel_rfl) (by kernel_rfl) rfl (fun _ _ _ h => h) ?_ hS ?_
      rotate_left 1
      · intro w' hSw
        obtain ⟨s0, s1, s2, s3⟩ := hSw
        go_simp
        first | done | rfl
      simp only [Act.put, List.setIfInBounds_toArray, List.set_cons_zero, List.set_cons_succ]
      refine Wk.one (i := 7) (at_lit rfl) (by kernel_rfl) (fun K hK => ?_)
      go_simp
      have hgA : Gr wr (wr.alloc (.cells #[.string ⟨ps[k].1.toArray⟩, .slice A' n' c'] 81)).drew := ((Gr.refl wr).allocO _).drew
      refine hK _ _ (fun _ => ⟨gr_cell hgA d31, gr_cell hgA d11, gr_cell hgA hc0, gr_cell hgA hc1⟩) ?_
      clear hK K
      refine Wk.one (i := 8) (at_lit rfl) (by kernel_rfl) (fun K hK => ?_)
      refine st_par wr (by rfl) (.tmp 17) (.tmp 23) 51 81 Tryd.underlying51 info_parof (by rfl) (w.heap.size + 3) (fun x => x < B) A2 k c2 (ps.take k) (by rfl) hrow ps[k] A' n' c' hSx hv (by rfl) (by omega) hszx ?_
      intro A3 c3 w3 hrow3 hb3w
      have e31 := (hb3w.cell (p := ⟨w.heap.size + 2, 1, none⟩) (by show w.heap.size + 2 < _; omega)).trans d31
      have g31 := (hb3w.frozen (p := ⟨w.heap.size + 2, 1, none⟩) (by show w.heap.size + 2 < _; omega)).trans f31
      have hS : (fun w' : World => w'.cell? ⟨w.heap.size + 2, 1, none⟩ = some (.slice A2 k c2) ∧ w'.cell? ⟨w.heap.size, 1, none⟩ = some (.slice (some ad) n c) ∧ w'.cell? (ad.add (k * 2)) = some (.string ⟨ps[k].1.toArray⟩) ∧ w'.cell? ⟨(ad.add (k * 2)).block, (ad.add (k * 2)).off + 1, none⟩ = some (.slice A' n' c')) w3 :=
        ⟨e31, (hb3w.cell (by show w.heap.size < _; omega)).trans d11, (hb3w.cell (by rw [add_block]; omega)).trans hc0, (hb3w.cell (by show (ad.add (k * 2)).block < _; rw [add_block]; omega)).trans hc1⟩
      refine hK _ _ (fun _ => hS) ?_
      clear hK K
      simp only [Act.put, List.setIfInBounds_toArray, List.set_cons_zero, List.set_cons_succ]
      refine Wk.take (i := 9) (v := ?_) (at_lit rfl) (at_lit rfl) (by kernel_rfl) (by kernel_rfl) (by kernel_rfl) (by kernel_rfl) rfl (fun _ _ _ h => h) ?_ hS ?_
      rotate_left 1
      · intro w' hSw
        obtain ⟨s0, s1, s2, s3⟩ := hSw
        go_simp
        first | done | rfl
      simp only [Act.put, List.setIfInBounds_toArray, List.set_cons_zero, List.set_cons_succ]
      refine Wk.one (i := 10) (at_lit rfl) (by kernel_rfl) (fun K hK => ?_)
      go_simp
      refine hK _ _ (fun h => absurd rfl h) ?_
      clear hK K
      refine Wk.done (by kernel_rfl) ?_
      have hb3n : Bx3 (w3.setCell ⟨w.heap.size + 2, 1, none⟩ (.slice A3 (k + 1) c3)) (w.heap.size + 2) (.string N) (.slice A3 (k + 1) c3) (.string V) := (hb3x.below hb3w (by omega)).set1 _
      have hmv3 : Mv (w.heap.size + 2) w0 (w3.setCell ⟨w.heap.size + 2, 1, none⟩ (.slice A3 (k + 1) c3)) := (hmv.below (by rw [z3]; exact hb3w)).trans (Mv.set _ _ _ _)
      have hrow4 := hrow3.kept (Mv.set (w.heap.size + 2) w3 1 (.slice A3 (k + 1) c3)) (fun q hq => by injection hq with hq; subst hq; exact ⟨by omega, fun x hx => by have hx' : x < B := hx; omega⟩)
      go_wp2
      go_roundg (n - (k + 1))
      case measure => have := HG.out; omega
      case rel => exact ⟨A3, c3, k + 1, by go_num, by omega, hmv3, hb3n, by rw [HTK.out]; exact hrow4⟩
    · obtain rfl : k = n := by have := HG.out; omega
      rw [List.take_of_length_le (by rw [HL.out]; exact Nat.le_refl _)] at hrow
      have hb2x := hb2.mv hmv (by omega)
      have HX2 := Lib.hid hb2x
      have d0 := hb3x.c0
      have d1 := hb3x.c1
      have d2 := hb3x.c2
      obtain ⟨x0, x1, x2, f0, f1, f2⟩ := hb2x
      go_wp2
      obtain ⟨y0, y1, y2⟩ := HX2.out.set3 (.string N) (.slice A2 k c2) (.string V)
      have hrow2 := hrow.kept (mv_set3 wr (w.heap.size + 1) (.string N) (.slice A2 k c2) (.string V)) (fun q hq => by injection hq with hq; subst hq; exact ⟨by omega, fun x hx => by have hx' : x < B := hx; omega⟩)
      have hbw := (hg0.below.trans (hmv.low (B := w.heap.size) (by omega) (by omega))).trans (below_set3 (w := wr) (b := w.heap.size + 1) (by omega) (.string N) (.slice A2 k c2) (.string V))
      generalize World.setCell (World.setCell (World.setCell _ _ _) _ _) _ _ = W at *
      exact bodyPost_ret (v := .agg #[.string N, .slice A2 k c2, .string V]) (by simp [results, Tryd.results23, go_sem, y0, y1, y2]) rfl ⟨A2, c2, rfl, hrow2.fp (fun x (hx : x < B) => .inl hx) (fun x hx => .inr (by omega)), hrow2.cap', ⟨hbw⟩⟩
end Go.Proofs.YtbfngdpdgmgfpaaDoor
