/- What match.inWeeks and placeInMonth return (layer 14). -/
import Derived.Test.YtmbmkldcedkbmaaGreatZGc
import Derived.Test.YtmbmkldcedkbmaaGreatZGd
import Derived.Test.YtmbmkldcedkbmaaGreatZGb
namespace Go.Proofs.YtmbmkldcedkbmaaGreat
open Go.RowKit

theorem st_ok {s : Int} (h0 : 0 ≤ s) (h1 : s ≤ 6) : Iso.stB s = true := Iso.stB_iff.2 ⟨h0, by omega⟩
theorem wn_bd (s n : Int) (h0 : 0 ≤ s) (h1 : s ≤ 6) : 1 ≤ Iso.wn s n ∧ Iso.wn s n ≤ 53 := by
  have a := Iso.wy_spec s n
  have b := Iso.w1_step (Iso.wy s n) h0 h1
  unfold Iso.wn; omega
set_option maxRecDepth 100000 in
set_option maxHeartbeats 2000000 in
theorem inweeks_any (V : Rm.Rv) (n : Int) (w : World) (hM : RuM w w.heap.size V) (hs : 0 ≤ V.r.st ∧ V.r.st ≤ 6) (hn : (V.week).n ≤ 140737488355328) (h : Cal.dayB n = true) :
    Calls Tryz.prog 130 #[.agg V.val, .int .i64 n, .agg #[.int .i64 (Cal.yr n), .int .i64 (Cal.mon n), .int .i64 (Cal.dom n)]] w fun r w' => r = .returned (.bool (Mc.inW2 V.r n)) ∧ Gr w w' := by
  obtain ⟨n1, n2⟩ := Cal.dayB_iff.1 h
  have yb := Cal.yr_bd n1 n2
  have hst := st_ok hs.1 hs.2
  have wb := wn_bd V.r.st n hs.1 hs.2
  have wc := Iso.nw_cases (Cal.yr n) hs.1 hs.2
  have hgA : Gr w (w.alloc (.cells V.val 27)) := (Gr.refl w).allocO _
  have hgB : Gr (w.alloc (.cells V.val 27)) ((w.alloc (.cells V.val 27)).alloc (.cells #[.int .i64 (Cal.yr n), .int .i64 (Cal.mon n), .int .i64 (Cal.dom n)] 85)) := (Gr.refl _).allocO _
  have hsz : (w.alloc (.cells V.val 27)).heap.size = w.heap.size + 1 := by simp
  have hbx := (RBx.now w V 27).gr hgB
  obtain ⟨k0, k1, k2⟩ := box_now (w.alloc (.cells V.val 27)) (.int .i64 (Cal.yr n)) (.int .i64 (Cal.mon n)) (.int .i64 (Cal.dom n)) 85
  rw [hsz] at k0 k1 k2
  clear k1 k2
  have e12 := hbx.c14
  have e7 := hbx.c7
  have hg := hgA.trans hgB
  have cW := fun w' => Iso.week_yes n V.r.st w' h hst
  have cN := fun w' => Iso.weeks_yes (Cal.yr n) V.r.st w' (by omega) (by omega) hst
  have hN := hM.l 5 (by decide)
  have cL := fun w' (h : Gr w w') => listed_any (Iso.wn V.r.st n) (Iso.nw (Cal.yr n) V.r.st) V.week.A V.week.n V.week.c V.r.week w' (hN.gr h) hn (by omega) (by omega) (by omega) (by omega)
  have hl : V.r.week.length = V.week.n := hN.1
  have HI : Hid (Mc.inW2 V.r n = (V.r.week.isEmpty || (Iso.wy V.r.st n == Cal.yr n && Mc.cntB V.r.week (Iso.wn V.r.st n) (Iso.nw (Cal.yr n) V.r.st)))) := rfl
  obtain ⟨q, hq⟩ : ∃ q, Mc.inW2 V.r n = q := ⟨_, rfl⟩
  rw [hq] at HI ⊢
  clear hq hN hM hbx hgA hgB hsz h hs hst n1 n2 wb wc
  have HL : Hid (Mc.lstd V.r.week (Iso.wn V.r.st n) (Iso.nw (Cal.yr n) V.r.st) = (V.r.week.isEmpty || Mc.cntB V.r.week (Iso.wn V.r.st n) (Iso.nw (Cal.yr n) V.r.st))) := rfl
  generalize Mc.lstd V.r.week (Iso.wn V.r.st n) (Iso.nw (Cal.yr n) V.r.st) = z at *
  generalize Mc.cntB V.r.week (Iso.wn V.r.st n) (Iso.nw (Cal.yr n) V.r.st) = z2 at *
  generalize Iso.wn V.r.st n = wn at *
  generalize Iso.nw (Cal.yr n) V.r.st = nw at *
  generalize Iso.wy V.r.st n = wy at *
  generalize V.r.st = s at *
  generalize V.week.n = m at *
  generalize V.week.A = A at *
  generalize V.week.c = c at *
  generalize Cal.yr n = y at *
  go_enter Tryz.func130, Tryz.ntmps130
  go_upto_region 1 with fail
  generalize (w.alloc (.cells V.val 27)).alloc (.cells #[.int .i64 y, .int .i64 (Cal.mon n), .int .i64 (Cal.dom n)] 85) = W at *
  by_cases h0 : m = 0
  · subst h0
    have HE : Hid (true = q) := Lib.hid (by rw [HI.out, List.eq_nil_of_length_eq_zero hl]; rfl)
    clear hl cL cN cW
    go_wp2
    go_ret
    exact ⟨ret_bool HE.out, hg⟩
  have hem : V.r.week.isEmpty = false := by
    cases hx : V.r.week with
    | nil => rw [hx] at hl; exact absurd hl.symm h0
    | cons _ _ => rfl
  have hn0 : ((m : Int) == 0) = false := by rw [beq_eq_false_iff_ne]; omega
  rw [hem] at HI HL
  clear hl hem
  go_wp2_with fail
  refine (cW _).mono ?_
  rintro e w1 ⟨rfl, hg1⟩
  have e12 := gr_cell hg1 e12
  have e7 := gr_cell hg1 e7
  have k0 := gr_cell hg1 k0
  have hg := hg.trans hg1
  by_cases hy : wy = y
  · subst hy
    have HE : Hid (z = q) := Lib.hid (by rw [HI.out, HL.out]; simp)
    clear cW HI HL hg1
    go_wp2_with fail
    refine (cN _).mono ?_
    rintro e w2 ⟨rfl, hg2⟩
    have e12 := gr_cell hg2 e12
    have hg := hg.trans hg2
    go_wp2_with (go_at_call 129; refine (cL _ hg).mono ?_; rintro e w' ⟨rfl, hg3⟩)
    go_ret
    exact ⟨ret_bool HE.out, hg.trans hg3⟩
  · have hy2 : (wy == y) = false := beq_eq_false_iff_ne.2 hy
    have HE : Hid (false = q) := Lib.hid (by rw [HI.out, hy2]; rfl)
    have hy3 : (wy != y) = true := by rw [bne, hy2]; rfl
    clear cN cL cW HI HL hg1 hy
    go_wp2
    go_ret
    exact ⟨ret_bool HE.out, hg⟩
set_option maxRecDepth 100000 in
set_option maxHeartbeats 2000000 in
theorem inmonth_any (y m d : Int) (w : World) :
    Calls Tryz.prog 127 #[.agg #[.int .i64 y, .int .i64 m, .int .i64 d]] w fun r w' => r = .returned (.agg #[.int .i64 d, .int .i64 (Cal.dim y m)]) ∧ Gr w w' := by
  have hgA : Gr w (w.alloc (.cells #[.int .i64 y, .int .i64 m, .int .i64 d] 85)) := (Gr.refl w).allocO _
  have hsz : (w.alloc (.cells #[.int .i64 y, .int .i64 m, .int .i64 d] 85)).heap.size = w.heap.size + 1 := by simp
  have hgB := (Gr.refl ((w.alloc (.cells #[.int .i64 y, .int .i64 m, .int .i64 d] 85)).alloc (.cells #[.int .i64 0, .int .i64 0] 133))).drew
  have hgC : Gr (w.alloc (.cells #[.int .i64 y, .int .i64 m, .int .i64 d] 85)) ((w.alloc (.cells #[.int .i64 y, .int .i64 m, .int .i64 d] 85)).alloc (.cells #[.int .i64 0, .int .i64 0] 133)).drew := ((Gr.refl _).allocO _).drew
  obtain ⟨c0, c1⟩ := box2 hgB
  have f0 := box_free hgB 0
  have f1 := box_free hgB 1
  obtain ⟨k0, k1, k2⟩ := box3 hgC
  rw [hsz] at c0 c1 f0 f1
  have hg := hgA.trans hgC
  clear hgA hgB hgC hsz
  go_enter Tryz.func127, Tryz.ntmps127
  go_upto_region 1 with fail
  refine wp_region_last 8 9 (fun w' : World => w'.cell? ⟨w.heap.size, 0, none⟩ = some (.int .i64 y) ∧ w'.cell? ⟨w.heap.size, 1, none⟩ = some (.int .i64 m) ∧ w'.cell? ⟨w.heap.size, 2, none⟩ = some (.int .i64 d)) (by kernel_rfl) rfl ?_
  generalize ((w.alloc (.cells #[.int .i64 y, .int .i64 m, .int .i64 d] 85)).alloc (.cells #[.int .i64 0, .int .i64 0] 133)).drew = W at *
  have hS : (fun w' : World => w'.cell? ⟨w.heap.size, 0, none⟩ = some (.int .i64 y) ∧ w'.cell? ⟨w.heap.size, 1, none⟩ = some (.int .i64 m) ∧ w'.cell? ⟨w.heap.size, 2, none⟩ = some (.int .i64 d)) W := ⟨k0, k1, k2⟩
  refine Wk.take (i := 0) (v := ?_) (at_lit rfl) (at_lit rfl) (by kernel_rfl) (by kernel_rfl) (by kernel_rfl) (by kernel_rfl) rfl (fun _ _ _ h => h) ?_ hS ?_
  rotate_left 1
  · intro w' hSw
    obtain ⟨s0, s1, s2⟩ := hSw
    go_simp
    first | done | rfl
  simp only [Act.put, List.setIfInBounds_toArray, List.set_cons_zero, List.set_cons_succ]
  refine Wk.take (i := 1) (v := ?_) (at_lit rfl) (at_lit rfl) (by kernel_rfl) (by kernel_rfl) (by kernel_rfl) (by kernel_rfl) rfl (fun _ _ _ h => h) ?_ hS ?_
  rotate_left 1
  · intro w' hSw
    obtain ⟨s0, s1, s2⟩ := hSw
    go_simp
    first | done | rfl
  simp only [Act.put, List.setIfInBounds_toArray, List.set_cons_zero, List.set_cons_succ]
  refine Wk.take (i := 2) (v := ?_) (at_lit rfl) (at_lit rfl) (by kernel_rfl) (by kernel_rfl) (by kernel_rfl) (by kernel_rfl) rfl (fun _ _ _ h => h) ?_ hS ?_
  rotate_left 1
  · intro w' hSw
    obtain ⟨s0, s1, s2⟩ := hSw
    go_simp
    first | done | rfl
  simp only [Act.put, List.setIfInBounds_toArray, List.set_cons_zero, List.set_cons_succ]
  refine Wk.take (i := 3) (v := ?_) (at_lit rfl) (at_lit rfl) (by kernel_rfl) (by kernel_rfl) (by kernel_rfl) (by kernel_rfl) rfl (fun _ _ _ h => h) ?_ hS ?_
  rotate_left 1
  · intro w' hSw
    obtain ⟨s0, s1, s2⟩ := hSw
    go_simp
    first | done | rfl
  simp only [Act.put, List.setIfInBounds_toArray, List.set_cons_zero, List.set_cons_succ]
  refine Wk.take (i := 4) (v := ?_) (at_lit rfl) (at_lit rfl) (by kernel_rfl) (by kernel_rfl) (by kernel_rfl) (by kernel_rfl) rfl (fun _ _ _ h => h) ?_ hS ?_
  rotate_left 1
  · intro w' hSw
    obtain ⟨s0, s1, s2⟩ := hSw
    go_simp
    first | done | rfl
  simp only [Act.put, List.setIfInBounds_toArray, List.set_cons_zero, List.set_cons_succ]
  refine Wk.take (i := 5) (v := ?_) (at_lit rfl) (at_lit rfl) (by kernel_rfl) (by kernel_rfl) (by kernel_rfl) (by kernel_rfl) rfl (fun _ _ _ h => h) ?_ hS ?_
  rotate_left 1
  · intro w' hSw
    obtain ⟨s0, s1, s2⟩ := hSw
    go_simp
    first | done | rfl
  simp only [Act.put, List.setIfInBounds_toArray, List.set_cons_zero, List.set_cons_succ]
  refine Wk.one (i := 6) (at_lit rfl) (by kernel_rfl) (fun K hK => ?_)
  go_simp
  refine (length_any _ _ _).mono ?_
  rintro e w2 ⟨rfl, rfl⟩
  refine hK _ _ (fun _ => hS) ?_
  clear hK K
  refine Wk.one (i := 7) (at_lit rfl) (by kernel_rfl) (fun K hK => ?_)
  go_simp
  refine hK _ _ (fun _ => hS) ?_
  clear hK K
  refine Wk.one (i := 8) (at_lit rfl) (by kernel_rfl) (fun K hK => ?_)
  go_simp
  refine hK _ _ (fun h => absurd rfl h) ?_
  clear hK K
  refine Wk.done (by kernel_rfl) ?_
  go_wp2
  obtain ⟨c0, c1⟩ := box_pair c0 c1 (.int .i64 d) (.int .i64 (Cal.dim y m))
  have hg := gr_pair hg (b := w.heap.size + 1) (by omega) (.int .i64 d) (.int .i64 (Cal.dim y m))
  generalize World.setCell _ _ _ = W2 at *
  exact bodyPost_ret (v := .agg #[.int .i64 d, .int .i64 (Cal.dim y m)]) (by simp [results, Tryz.results127, go_sem, c0, c1]) rfl ⟨rfl, hg⟩
end Go.Proofs.YtmbmkldcedkbmaaGreat
