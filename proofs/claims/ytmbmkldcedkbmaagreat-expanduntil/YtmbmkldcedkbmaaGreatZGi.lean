/- The texts MtTwo, MtIn, one behind the other. -/
import Derived.Test.YtmbmkldcedkbmaaGreatZMtLike
import Derived.Test.YtmbmkldcedkbmaaGreatZL
import Derived.Test.YtmbmkldcedkbmaaGreatZH
import Derived.Deep.WholeRow
namespace Go.Proofs.YtmbmkldcedkbmaaGreat
open Go.RowKit

structure PlI (W : World) (X0 N : Value) (R1 R2 : Array Value) (D : Nat → Bool) (x7 x8 x26 x27 x28 x29 x30 : Value) (b5 b6 : Nat) (w' : World) : Prop where
  gr : Gr W w'
  d0 : D 0 = true → x26 = X0
  d1 : D 1 = true → x27 = .agg R1
  d2 : D 2 = true → x28 = N
  d3 : D 3 = true → x29 = X0
  d4 : D 4 = true → x30 = .agg R2
  d5 : D 5 = true → x7 = .pointer (some ⟨b5, 0, none⟩) ∧ W.heap.size ≤ b5 ∧ ∃ cs : Array Value, w'.heap[b5]? = some (.cells cs 133 (0, 0)) ∧ cs.size = 2 ∧ (D 7 = true → cs = R1)
  d6 : D 6 = true → x8 = .pointer (some ⟨b6, 0, none⟩) ∧ W.heap.size ≤ b6 ∧ ∃ cs : Array Value, w'.heap[b6]? = some (.cells cs 133 (0, 0)) ∧ cs.size = 2 ∧ (D 8 = true → cs = R2)
  o7 : D 7 = true → D 5 = true
  o8 : D 8 = true → D 6 = true
  ne : D 5 = true → D 6 = true → b5 ≠ b6
theorem pl_obj {w w' : World} (h : Gr w w') {b : Nat} {o : Obj} (ho : w.heap[b]? = some o) : w'.heap[b]? = some o := (h.below.block b (Array.getElem?_eq_some_iff.1 ho).1).trans ho
theorem pl_lt {w : World} {b : Nat} {o : Obj} (ho : w.heap[b]? = some o) : b < w.heap.size := (Array.getElem?_eq_some_iff.1 ho).1
theorem pl_row {W w' : World} {b : Nat} (h : Gr W w') (hb : W.heap.size ≤ b) (cs : Array Value) : Gr W (w'.setRow b cs) :=
  ⟨h.below.trans ((sm_setRow w' b cs).below (fun _ hk => Nat.ne_of_lt (Nat.lt_of_lt_of_le hk hb)) h.lt)⟩
theorem pl_cell {w : World} {b : Nat} {x y : Value} {t : TypeId} {fr : Nat × Nat} (h : w.heap[b]? = some (.cells #[x, y] t fr)) : w.cell? ⟨b, 0, none⟩ = some x ∧ w.cell? ⟨b, 1, none⟩ = some y := by
  constructor <;> simp [World.cell?, h]
theorem info_place : (Tryz.prog.info? 133).map (·.size) = some 2 := by kernel_rfl
theorem place_one (a b : Int) : ((#[.int .i64 a, .int .i64 b] : Array Value).all (·.oneCell')) = true := by simp [Value.oneCell']
section
variable {W : World} {X0 N : Value} {R1 R2 : Array Value} {D : Nat → Bool} {x7 x8 x26 x27 x28 x29 x30 : Value} {b5 b6 : Nat} {w' w'' : World}
theorem PlI.grow (h : PlI W X0 N R1 R2 D x7 x8 x26 x27 x28 x29 x30 b5 b6 w') (hg : Gr w' w'') : PlI W X0 N R1 R2 D x7 x8 x26 x27 x28 x29 x30 b5 b6 w'' :=
  ⟨h.gr.trans hg, h.d0, h.d1, h.d2, h.d3, h.d4, fun e => by obtain ⟨p, q, cs, r, s⟩ := h.d5 e; exact ⟨p, q, cs, pl_obj hg r, s⟩, fun e => by obtain ⟨p, q, cs, r, s⟩ := h.d6 e; exact ⟨p, q, cs, pl_obj hg r, s⟩, h.o7, h.o8, h.ne⟩
theorem PlI.s0 (h : PlI W X0 N R1 R2 D x7 x8 x26 x27 x28 x29 x30 b5 b6 w') : PlI W X0 N R1 R2 (fun k => k == 0 || D k) x7 x8 X0 x27 x28 x29 x30 b5 b6 w' :=
  ⟨h.gr, fun _ => rfl, fun e => h.d1 (by simpa using e), fun e => h.d2 (by simpa using e), fun e => h.d3 (by simpa using e), fun e => h.d4 (by simpa using e), fun e => by simpa using h.d5 (by simpa using e), fun e => by simpa using h.d6 (by simpa using e), fun e => by simpa using h.o7 (by simpa using e), fun e => by simpa using h.o8 (by simpa using e), fun e e' => h.ne (by simpa using e) (by simpa using e')⟩
theorem PlI.s1 (h : PlI W X0 N R1 R2 D x7 x8 x26 x27 x28 x29 x30 b5 b6 w') : PlI W X0 N R1 R2 (fun k => k == 1 || D k) x7 x8 x26 (.agg R1) x28 x29 x30 b5 b6 w' :=
  ⟨h.gr, fun e => h.d0 (by simpa using e), fun _ => rfl, fun e => h.d2 (by simpa using e), fun e => h.d3 (by simpa using e), fun e => h.d4 (by simpa using e), fun e => by simpa using h.d5 (by simpa using e), fun e => by simpa using h.d6 (by simpa using e), fun e => by simpa using h.o7 (by simpa using e), fun e => by simpa using h.o8 (by simpa using e), fun e e' => h.ne (by simpa using e) (by simpa using e')⟩
theorem PlI.s2 (h : PlI W X0 N R1 R2 D x7 x8 x26 x27 x28 x29 x30 b5 b6 w') : PlI W X0 N R1 R2 (fun k => k == 2 || D k) x7 x8 x26 x27 N x29 x30 b5 b6 w' :=
  ⟨h.gr, fun e => h.d0 (by simpa using e), fun e => h.d1 (by simpa using e), fun _ => rfl, fun e => h.d3 (by simpa using e), fun e => h.d4 (by simpa using e), fun e => by simpa using h.d5 (by simpa using e), fun e => by simpa using h.d6 (by simpa using e), fun e => by simpa using h.o7 (by simpa using e), fun e => by simpa using h.o8 (by simpa using e), fun e e' => h.ne (by simpa using e) (by simpa using e')⟩
theorem PlI.s3 (h : PlI W X0 N R1 R2 D x7 x8 x26 x27 x28 x29 x30 b5 b6 w') : PlI W X0 N R1 R2 (fun k => k == 3 || D k) x7 x8 x26 x27 x28 X0 x30 b5 b6 w' :=
  ⟨h.gr, fun e => h.d0 (by simpa using e), fun e => h.d1 (by simpa using e), fun e => h.d2 (by simpa using e), fun _ => rfl, fun e => h.d4 (by simpa using e), fun e => by simpa using h.d5 (by simpa using e), fun e => by simpa using h.d6 (by simpa using e), fun e => by simpa using h.o7 (by simpa using e), fun e => by simpa using h.o8 (by simpa using e), fun e e' => h.ne (by simpa using e) (by simpa using e')⟩
theorem PlI.s4 (h : PlI W X0 N R1 R2 D x7 x8 x26 x27 x28 x29 x30 b5 b6 w') : PlI W X0 N R1 R2 (fun k => k == 4 || D k) x7 x8 x26 x27 x28 x29 (.agg R2) b5 b6 w' :=
  ⟨h.gr, fun e => h.d0 (by simpa using e), fun e => h.d1 (by simpa using e), fun e => h.d2 (by simpa using e), fun e => h.d3 (by simpa using e), fun _ => rfl, fun e => by simpa using h.d5 (by simpa using e), fun e => by simpa using h.d6 (by simpa using e), fun e => by simpa using h.o7 (by simpa using e), fun e => by simpa using h.o8 (by simpa using e), fun e e' => h.ne (by simpa using e) (by simpa using e')⟩
theorem PlI.s5 (h : PlI W X0 N R1 R2 D x7 x8 x26 x27 x28 x29 x30 b5 b6 w') (hD : D 5 = false) (cs : Array Value) (hz : cs.size = 2) : PlI W X0 N R1 R2 (fun k => k == 5 || D k) (.pointer (some ⟨w'.heap.size, 0, none⟩)) x8 x26 x27 x28 x29 x30 w'.heap.size b6 (w'.alloc (.cells cs 133)) := by
  have hg : Gr w' (w'.alloc (.cells cs 133)) := (Gr.refl w').allocO _
  have h2 := h.grow hg
  refine ⟨h2.gr, fun e => h.d0 (by simpa using e), fun e => h.d1 (by simpa using e), fun e => h.d2 (by simpa using e), fun e => h.d3 (by simpa using e), fun e => h.d4 (by simpa using e), fun _ => ⟨rfl, h.gr.lt, cs, heap_alloc_new _ _, hz, fun e => ?_⟩, fun e => by simpa using h2.d6 (by simpa using e), fun e => by simp, fun e => by simpa using h.o8 (by simpa using e), fun _ e' => ?_⟩
  · have := h.o7 (by simpa using e)
    rw [hD] at this; cases this
  · obtain ⟨_, _, cs2, r, _⟩ := h.d6 (by simpa using e')
    exact Ne.symm (Nat.ne_of_lt (pl_lt r))
theorem PlI.s6 (h : PlI W X0 N R1 R2 D x7 x8 x26 x27 x28 x29 x30 b5 b6 w') (hD : D 6 = false) (cs : Array Value) (hz : cs.size = 2) : PlI W X0 N R1 R2 (fun k => k == 6 || D k) x7 (.pointer (some ⟨w'.heap.size, 0, none⟩)) x26 x27 x28 x29 x30 b5 w'.heap.size (w'.alloc (.cells cs 133)) := by
  have hg : Gr w' (w'.alloc (.cells cs 133)) := (Gr.refl w').allocO _
  have h2 := h.grow hg
  refine ⟨h2.gr, fun e => h.d0 (by simpa using e), fun e => h.d1 (by simpa using e), fun e => h.d2 (by simpa using e), fun e => h.d3 (by simpa using e), fun e => h.d4 (by simpa using e), fun e => by simpa using h2.d5 (by simpa using e), fun _ => ⟨rfl, h.gr.lt, cs, heap_alloc_new _ _, hz, fun e => ?_⟩, fun e => by simpa using h.o7 (by simpa using e), fun e => by simp, fun e _ => ?_⟩
  · have := h.o8 (by simpa using e)
    rw [hD] at this; cases this
  · obtain ⟨_, _, cs2, r, _⟩ := h.d5 (by simpa using e)
    exact Nat.ne_of_lt (pl_lt r)
theorem PlI.s7 (h : PlI W X0 N R1 R2 D x7 x8 x26 x27 x28 x29 x30 b5 b6 w') (hD : D 5 = true) (hz : R1.size = 2) : PlI W X0 N R1 R2 (fun k => k == 7 || D k) x7 x8 x26 x27 x28 x29 x30 b5 b6 (w'.setRow b5 R1) := by
  obtain ⟨p, q, cs, r, s⟩ := h.d5 hD
  refine ⟨pl_row h.gr q _, fun e => h.d0 (by simpa using e), fun e => h.d1 (by simpa using e), fun e => h.d2 (by simpa using e), fun e => h.d3 (by simpa using e), fun e => h.d4 (by simpa using e), fun _ => ⟨p, q, _, setRow_heap _ _ _ _ _ _ r, hz, fun _ => rfl⟩, fun e => ?_, fun _ => by simpa using hD, fun e => by simpa using h.o8 (by simpa using e), fun e e' => h.ne (by simpa using e) (by simpa using e')⟩
  have e' : D 6 = true := by simpa using e
  obtain ⟨p2, q2, cs2, r2, s2⟩ := h.d6 e'
  exact ⟨p2, q2, cs2, by rw [setRow_other w' b5 b6 _ (Ne.symm (h.ne hD e'))]; exact r2, s2.1, fun e => s2.2 (by simpa using e)⟩
theorem PlI.s8 (h : PlI W X0 N R1 R2 D x7 x8 x26 x27 x28 x29 x30 b5 b6 w') (hD : D 6 = true) (hz : R2.size = 2) : PlI W X0 N R1 R2 (fun k => k == 8 || D k) x7 x8 x26 x27 x28 x29 x30 b5 b6 (w'.setRow b6 R2) := by
  obtain ⟨p, q, cs, r, s⟩ := h.d6 hD
  refine ⟨pl_row h.gr q _, fun e => h.d0 (by simpa using e), fun e => h.d1 (by simpa using e), fun e => h.d2 (by simpa using e), fun e => h.d3 (by simpa using e), fun e => h.d4 (by simpa using e), fun e => ?_, fun _ => ⟨p, q, _, setRow_heap _ _ _ _ _ _ r, hz, fun _ => rfl⟩, fun e => by simpa using h.o7 (by simpa using e), fun _ => by simpa using hD, fun e e' => h.ne (by simpa using e) (by simpa using e')⟩
  have e' : D 5 = true := by simpa using e
  obtain ⟨p2, q2, cs2, r2, s2⟩ := h.d5 e'
  exact ⟨p2, q2, cs2, by rw [setRow_other w' b6 b5 _ (h.ne e' hD)]; exact r2, s2.1, fun e => s2.2 (by simpa using e)⟩
end
def ordPl (i : Nat) (D : Nat → Bool) : Bool := if i = 1 then D 0 else if i = 4 then D 2 && D 3 else if i = 7 then D 5 && D 1 else if i = 8 then D 6 && D 4 else true
end Go.Proofs.YtmbmkldcedkbmaaGreat
namespace Go.Proofs.YtmbmkldcedkbmaaGreat
open Go.RowKit

namespace Mc
open Cal
theorem nth_cnt (wd a b : Int) (p : Int × Int) : (p.2 == wd && (p.1 == 0 || nthB a (b + 1) p.1)) = wdB wd a (a + b) p := by
  unfold wdB nthB cnt1
  rw [show a + (b + 1) - 1 = a + b by omega]
theorem onD2_m {r : Rm.Ru} {n : Int} (h : r.freq = 3 ∨ r.month ≠ []) : onD2 r n = (r.day.isEmpty || r.day.any (wdB (n % 7) ((dom n - 1) / 7 + 1) ((dom n - 1) / 7 + 1 + (dim (yr n) (mon n) - dom n) / 7))) := by
  unfold onD2 nth
  rw [if_pos h]
  congr 2
  funext p
  exact nth_cnt _ _ _ p
theorem onD2_y {r : Rm.Ru} {n : Int} (h : ¬ (r.freq = 3 ∨ r.month ≠ [])) : onD2 r n = (r.day.isEmpty || r.day.any (wdB (n % 7) ((n - dby (yr n) - 1) / 7 + 1) ((n - dby (yr n) - 1) / 7 + 1 + (ylen (yr n) - (n - dby (yr n))) / 7))) := by
  unfold onD2 nth
  rw [if_neg h]
  congr 2
  funext p
  exact nth_cnt _ _ _ p
end Mc
set_option maxRecDepth 100000 in
set_option maxHeartbeats 4000000 in
theorem inlists_any (V : Rm.Rv) (n : Int) (w : World) (hM : RuM w w.heap.size V) (hd : V.day.n ≤ 140737488355328) (hn : ∀ i, i < 8 → (V.sl i).n ≤ 140737488355328) (hs : 0 ≤ V.r.st ∧ V.r.st ≤ 6) (h : Cal.dayB n = true) :
    Calls Tryz.prog 109 #[.agg V.val, .int .i64 n] w fun r w' => r = .returned (.bool (Mc.lst2 V.r n)) ∧ Gr w w' := by
  obtain ⟨n1, n2⟩ := Cal.dayB_iff.1 h
  have mb : 1 ≤ Cal.mon n ∧ Cal.mon n ≤ 12 := Cal.mo_bd (Cal.yr n) (n - Cal.dby (Cal.yr n))
  have lb := Cal.dim_lo (Cal.yr n) mb.1 mb.2
  have lb2 := Cal.dim_bd (Cal.yr n) (Cal.mon n)
  obtain ⟨hok, _⟩ := Cal.date_spec h
  obtain ⟨_, _, d1, d2⟩ := Cal.okB_iff.1 hok
  have yl := Mc.ylen_cases (Cal.yr n)
  have yr1 := Mc.year_of n
  have hg : Gr w (w.alloc (.cells V.val 27)) := (Gr.refl w).allocO _
  have hbx := RBx.now w V 27
  have cD := fun w' => date_yes n w' h
  have cM := fun w' (g : Gr w w') => contains_any V.month.A V.month.n V.month.c V.r.month (Cal.mon n) w' ((hM.l 6 (by decide)).gr g) (hn 6 (by decide))
  have cK := fun w' (g : Gr w w') => inweeks_any V n w' (hM.gr g) hs (hn 5 (by decide)) h
  have cPM := fun w' => inmonth_any (Cal.yr n) (Cal.mon n) (Cal.dom n) w'
  have cPY := fun w' => inyear14_any n w' h
  have cL3 := fun w' (g : Gr w w') => listed_any (Cal.dom n) (Cal.dim (Cal.yr n) (Cal.mon n)) V.mday.A V.mday.n V.mday.c V.r.mday w' ((hM.l 3 (by decide)).gr g) (hn 3 (by decide)) (by omega) (by omega) (by omega) (by omega)
  have ylb : 1 ≤ n - Cal.dby (Cal.yr n) ∧ n - Cal.dby (Cal.yr n) ≤ Mc.ylen (Cal.yr n) := by unfold Mc.ylen; omega
  have cL4 := fun w' (g : Gr w w') => listed_any (n - Cal.dby (Cal.yr n)) (Mc.ylen (Cal.yr n)) V.yday.A V.yday.n V.yday.c V.r.yday w' ((hM.l 4 (by decide)).gr g) (hn 4 (by decide)) (by omega) (by omega) (by omega) (by omega)
  have cWm := fun w' (g : Gr w w') => onwd_any (Cal.dom n) (Cal.dim (Cal.yr n) (Cal.mon n)) (n % 7) V.day.A V.day.n V.day.c V.r.day w' (hM.d.gr g) hd (by omega) (by omega) (by omega)
  have cWy := fun w' (g : Gr w w') => onwd_any (n - Cal.dby (Cal.yr n)) (Mc.ylen (Cal.yr n)) (n % 7) V.day.A V.day.n V.day.c V.r.day w' (hM.d.gr g) hd (by omega) (by omega) (by omega)
  have l6 : V.r.month.length = V.month.n := (hM.l 6 (by decide)).1
  have b6 : V.month.n ≤ 140737488355328 := hn 6 (by decide)
  have ho : (V.r.freq = 3 ∨ V.month.n ≠ 0) ↔ (V.r.freq = 3 ∨ V.r.month ≠ []) := by rw [ne_len l6]
  have HO : Hid ((¬ (V.r.freq = 3 ∨ V.month.n ≠ 0) ∨ Mc.onD2 V.r n = (V.r.day.isEmpty || V.r.day.any (Mc.wdB (n % 7) ((Cal.dom n - 1) / 7 + 1) ((Cal.dom n - 1) / 7 + 1 + (Cal.dim (Cal.yr n) (Cal.mon n) - Cal.dom n) / 7)))) ∧
      ((V.r.freq = 3 ∨ V.month.n ≠ 0) ∨ Mc.onD2 V.r n = (V.r.day.isEmpty || V.r.day.any (Mc.wdB (n % 7) ((n - Cal.dby (Cal.yr n) - 1) / 7 + 1) ((n - Cal.dby (Cal.yr n) - 1) / 7 + 1 + (Mc.ylen (Cal.yr n) - (n - Cal.dby (Cal.yr n))) / 7))))) := Lib.hid (by
    rw [ho]
    by_cases c : V.r.freq = 3 ∨ V.r.month ≠ []
    · exact ⟨.inr (Mc.onD2_m c), .inl c⟩
    · exact ⟨.inl c, .inr (Mc.onD2_y c)⟩)
  have HI : Hid (Mc.lst2 V.r n = ((decide (V.month.n = 0) || Mc.hasB V.r.month (Cal.mon n)) && Mc.lstd V.r.mday (Cal.dom n) (Cal.dim (Cal.yr n) (Cal.mon n)) && Mc.lstd V.r.yday (n - Cal.dby (Cal.yr n)) (Mc.ylen (Cal.yr n)) && Mc.inW2 V.r n && Mc.onD2 V.r n)) := Lib.hid (by
    unfold Mc.lst2
    rw [emp_len l6])
  obtain ⟨q, hq⟩ : ∃ q, Mc.lst2 V.r n = q := ⟨_, rfl⟩
  rw [hq] at HI ⊢
  clear hq ho l6 yr1 lb lb2 d1 d2 hok yl ylb mb n1 n2 h
  generalize (V.r.day.isEmpty || V.r.day.any (Mc.wdB (n % 7) ((Cal.dom n - 1) / 7 + 1) ((Cal.dom n - 1) / 7 + 1 + (Cal.dim (Cal.yr n) (Cal.mon n) - Cal.dom n) / 7))) = zm at *
  generalize (V.r.day.isEmpty || V.r.day.any (Mc.wdB (n % 7) ((n - Cal.dby (Cal.yr n) - 1) / 7 + 1) ((n - Cal.dby (Cal.yr n) - 1) / 7 + 1 + (Mc.ylen (Cal.yr n) - (n - Cal.dby (Cal.yr n))) / 7))) = zy at *
  generalize Mc.lstd V.r.mday (Cal.dom n) (Cal.dim (Cal.yr n) (Cal.mon n)) = z3 at *
  generalize Mc.lstd V.r.yday (n - Cal.dby (Cal.yr n)) (Mc.ylen (Cal.yr n)) = z4 at *
  generalize Mc.inW2 V.r n = z5 at *
  generalize Mc.hasB V.r.month (Cal.mon n) = z6 at *
  generalize Mc.onD2 V.r n = zd at *
  generalize Cal.dim (Cal.yr n) (Cal.mon n) = di at *
  generalize Mc.ylen (Cal.yr n) = yl at *
  generalize n - Cal.dby (Cal.yr n) = dn at *
  generalize Cal.yr n = y at *
  generalize Cal.mon n = m at *
  generalize Cal.dom n = d at *
  go_enter Tryz.func109, Tryz.ntmps109
  go_wp2_with fail
  refine (cD _).mono ?_
  rintro e w1 ⟨rfl, hg1⟩
  have hbx := hbx.gr hg1
  have hgA : Gr w1 (w1.alloc (.cells #[.int .i64 y, .int .i64 m, .int .i64 d] 85)) := (Gr.refl w1).allocO _
  obtain ⟨k0, k1, k2⟩ := box_now w1 (.int .i64 y) (.int .i64 m) (.int .i64 d) 85
  have hbx := hbx.gr hgA
  have hg := (hg.trans hg1).trans hgA
  clear hg1 hgA cD
  have e15 := hbx.c15
  go_upto_region 2 with fail
  generalize w1.alloc (.cells #[.int .i64 y, .int .i64 m, .int .i64 d] 85) = W at *
  have HX := Lib.hid hbx
  clear hbx
  go_cut [25] from 14 (fun v wx => v = .bool (!(decide (V.month.n = 0) || z6)) ∧ W = wx)
  case first =>
    by_cases h6 : V.month.n = 0
    · as_aux_lemma =>
      rw [h6] at e15
      have HE : Hid ((!(decide (V.month.n = 0) || z6)) = false) := Lib.hid (by rw [h6]; rfl)
      generalize (!(decide (V.month.n = 0) || z6)) = t at *
      clear h6 HX
      go_wp2
      go_meet
      case rel => exact ⟨by rw [HE.out], rfl⟩
    · as_aux_lemma =>
      have HE : Hid ((!(decide (V.month.n = 0) || z6)) = !z6) := Lib.hid (by rw [decide_eq_false h6]; rfl)
      have hm6 : (0 : Int) < (V.month.n : Int) := by omega
      generalize (!(decide (V.month.n = 0) || z6)) = t at *
      clear h6 HX
      go_wp2_with (go_at_call 107; refine (cM _ hg).mono ?_; rintro e w' ⟨rfl, rfl⟩)
      go_meet
      case rel => exact ⟨by rw [HE.out], rfl⟩
  case rest =>
  obtain ⟨rfl, rfl⟩ := hcut
  have HE : Hid (q = ((!(!(decide (V.month.n = 0) || z6))) && z3 && z4 && z5 && zd)) := Lib.hid (by rw [HI.out, Bool.not_not])
  generalize (!(decide (V.month.n = 0) || z6)) = t at *
  clear HI cM e15
  rcases t
  case true =>
    as_aux_lemma =>
    have HE : Hid (false = q) := Lib.hid (by rw [HE.out]; rfl)
    go_wp2
    go_ret
    exact ⟨ret_bool HE.out, hg⟩
  have HE : Hid (q = (z3 && z4 && z5 && zd)) := Lib.hid (by rw [HE.out]; rfl)
  go_upto_region 4 with fail
  refine wp_region_ord 9 ordPl (fun D a w' => ∃ (x7 x8 x26 x27 x28 x29 x30 : Value) (b5 b6 : Nat), a = { tmps := #[.agg V.val, .int .i64 n, .pointer (some ⟨w.heap.size, 0, none⟩), undef, .bool false, .pointer (some ⟨w1.heap.size, 0, none⟩), .int .i64 0, x7, x8, .tuple #[.agg #[.int .i64 y, .int .i64 m, .int .i64 d], .int .i64 0], .int .i64 n, .tuple #[.agg #[.int .i64 y, .int .i64 m, .int .i64 d], .int .i64 0], .agg #[.int .i64 y, .int .i64 m, .int .i64 d], .int .i64 0, u14, u15, u16, u17, u18, u19, u20, u21, u22, u23, u24, .bool false, x26, x27, x28, x29, x30, u31, u32, u33, u34, u35, u36, u37, u38, u39, u40, u41, u42, u43, u44, u45, u46, u47, u48, u49, u50, u51, u52, u53, u54, u55, u56, u57, u58, u59, u60, u61, u62, u63, u64, u65, u66, u67, u68, u69, u70], defers := [] } ∧ PlI W (.agg #[.int .i64 y, .int .i64 m, .int .i64 d]) (.int .i64 n) #[.int .i64 d, .int .i64 di] #[.int .i64 dn, .int .i64 yl] D x7 x8 x26 x27 x28 x29 x30 b5 b6 w') (by kernel_rfl) rfl (by kernel_rfl) ?h0 ?hs ?hf
  case h0 =>
    refine ⟨undef, undef, u26, u27, u28, u29, u30, 0, 0, rfl, ?_⟩
    constructor
    · exact (Gr.refl W).drew
    all_goals (intro h; cases h)
  case hs =>
    rintro i D a w3 hi hD hf ⟨x7, x8, x26, x27, x28, x29, x30, b5, b6, rfl, h⟩
    have j0 := gr_cell h.gr k0
    have j1 := gr_cell h.gr k1
    have j2 := gr_cell h.gr k2
    rcases (show i = 0 ∨ i = 1 ∨ i = 2 ∨ i = 3 ∨ i = 4 ∨ i = 5 ∨ i = 6 ∨ i = 7 ∨ i = 8 by omega) with rfl | rfl | rfl | rfl | rfl | rfl | rfl | rfl | rfl
    · as_aux_lemma =>
      refine wpOp_step (at_lit rfl) (fun K hK => ?_)
      clear hf hD
      go_simp
      exact hK _ _ ⟨_, _, _, _, _, _, _, b5, b6, rfl, h.s0⟩
    · as_aux_lemma =>
      refine wpOp_step (at_lit rfl) (fun K hK => ?_)
      have h9 := h.d0 hf
      subst h9
      clear hf hD
      go_simp
      refine (cPM _).mono ?_
      rintro e w4 ⟨rfl, hg4⟩
      exact hK _ _ ⟨_, _, _, _, _, _, _, b5, b6, rfl, (h.grow hg4).s1⟩
    · as_aux_lemma =>
      refine wpOp_step (at_lit rfl) (fun K hK => ?_)
      clear hf hD
      go_simp
      exact hK _ _ ⟨_, _, _, _, _, _, _, b5, b6, rfl, h.s2⟩
    · as_aux_lemma =>
      refine wpOp_step (at_lit rfl) (fun K hK => ?_)
      clear hf hD
      go_simp
      exact hK _ _ ⟨_, _, _, _, _, _, _, b5, b6, rfl, h.s3⟩
    · as_aux_lemma =>
      refine wpOp_step (at_lit rfl) (fun K hK => ?_)
      have hf2 : D 2 = true ∧ D 3 = true := by simpa [ordPl] using hf
      have h9 := h.d2 hf2.1
      have h8 := h.d3 hf2.2
      subst h9 h8
      clear hf hD
      go_simp
      refine (cPY _).mono ?_
      rintro e w4 ⟨rfl, hg4⟩
      exact hK _ _ ⟨_, _, _, _, _, _, _, b5, b6, rfl, (h.grow hg4).s4⟩
    · as_aux_lemma =>
      refine wpOp_step (at_lit rfl) (fun K hK => ?_)
      clear hf
      go_simp
      exact hK _ _ ⟨_, _, _, _, _, _, _, _, b6, rfl, h.s5 hD _ rfl⟩
    · as_aux_lemma =>
      refine wpOp_step (at_lit rfl) (fun K hK => ?_)
      clear hf
      go_simp
      exact hK _ _ ⟨_, _, _, _, _, _, _, b5, _, rfl, h.s6 hD _ rfl⟩
    · as_aux_lemma =>
      refine wpOp_step (at_lit rfl) (fun K hK => ?_)
      have hf2 : D 5 = true ∧ D 1 = true := by simpa [ordPl] using hf
      have h9 := h.d1 hf2.2
      subst h9
      obtain ⟨p, q1, cs, r, hz, _⟩ := h.d5 hf2.1
      subst p
      rw [if_pos (by rfl)]
      refine wp_store_row 133 (.tmp 7) (.tmp 27) rfl b5 #[.int .i64 d, .int .i64 di] rfl rfl 133 _ r info_place hz (place_one _ _) ?_
      exact hK _ _ ⟨_, _, _, _, _, _, _, b5, b6, rfl, h.s7 hf2.1 rfl⟩
    · as_aux_lemma =>
      refine wpOp_step (at_lit rfl) (fun K hK => ?_)
      have hf2 : D 6 = true ∧ D 4 = true := by simpa [ordPl] using hf
      have h9 := h.d4 hf2.2
      subst h9
      obtain ⟨p, q1, cs, r, hz, _⟩ := h.d6 hf2.1
      subst p
      rw [if_pos (by rfl)]
      refine wp_store_row 133 (.tmp 8) (.tmp 30) rfl b6 #[.int .i64 dn, .int .i64 yl] rfl rfl 133 _ r info_place hz (place_one _ _) ?_
      exact hK _ _ ⟨_, _, _, _, _, _, _, b5, b6, rfl, h.s8 hf2.1 rfl⟩
  case hf =>
    rintro D a w3 hall ⟨x7, x8, x26, x27, x28, x29, x30, b5, b6, rfl, h⟩
    have hg3 := h.gr
    obtain rfl := h.d0 (hall 0 (by decide))
    obtain rfl := h.d1 (hall 1 (by decide))
    obtain rfl := h.d2 (hall 2 (by decide))
    obtain rfl := h.d3 (hall 3 (by decide))
    obtain rfl := h.d4 (hall 4 (by decide))
    obtain ⟨p5, _, cs5, r5, s5⟩ := h.d5 (hall 5 (by decide))
    obtain ⟨p6, _, cs6, r6, s6⟩ := h.d6 (hall 6 (by decide))
    obtain rfl := p5
    obtain rfl := p6
    obtain rfl := s5.2 (hall 7 (by decide))
    obtain rfl := s6.2 (hall 8 (by decide))
    obtain ⟨a0, a1⟩ := pl_cell r5
    obtain ⟨c0, c1⟩ := pl_cell r6
    have k0 := gr_cell hg3 k0
    have k1 := gr_cell hg3 k1
    have k2 := gr_cell hg3 k2
    have hbx := HX.out.gr hg3
    have hg := hg.trans hg3
    clear h hall r5 r6 s5 s6 cPM cPY hg3 HX
    have HX := Lib.hid hbx
    have e12 := hbx.c12
    have e13 := hbx.c13
    clear hbx
    go_upto_region 5 with fail
    go_cut [49] from 31 (fun v wx => v = .bool (!(z3 && z4 && z5)) ∧ Gr w3 wx)
    case first =>
      clear cWm cWy HO HE
      rcases z3
      · as_aux_lemma =>
        clear cL4 cK e13 c0 c1 k0 k1 k2 HX
        go_wp2_with (go_at_call 129; refine (cL3 _ hg).mono ?_; rintro e w4 ⟨rfl, hg4⟩)
        go_meet
        case rel => exact ⟨rfl, hg4⟩
      rcases z4
      · as_aux_lemma =>
        clear cK k0 k1 k2 HX
        go_wp2_with fail
        refine (cL3 _ hg).mono ?_
        rintro e w4 ⟨rfl, hg4⟩
        have e13 := gr_cell hg4 e13
        have c0 := gr_cell hg4 c0
        have c1 := gr_cell hg4 c1
        go_wp2_with (go_at_call 129; refine (cL4 _ (hg.trans hg4)).mono ?_; rintro e w5 ⟨rfl, hg5⟩)
        go_meet
        case rel => exact ⟨rfl, hg4.trans hg5⟩
      · as_aux_lemma =>
        go_wp2_with fail
        refine (cL3 _ hg).mono ?_
        rintro e w4 ⟨rfl, hg4⟩
        have e13 := gr_cell hg4 e13
        have c0 := gr_cell hg4 c0
        have c1 := gr_cell hg4 c1
        go_wp2_with fail
        refine (cL4 _ (hg.trans hg4)).mono ?_
        rintro e w5 ⟨rfl, hg5⟩
        have hg6 := hg4.trans hg5
        have k0 := gr_cell hg6 k0
        have k1 := gr_cell hg6 k1
        have k2 := gr_cell hg6 k2
        have hx := HX.out.gr hg6
        clear HX e12 e13 a0 a1 c0 c1 hg4 hg5
        go_wp2_with (first | (refine wpList_load_ruleg (by rfl) _ rfl rfl (by assumption) ?_) | (go_at_call 130; refine (cK _ (hg.trans hg6)).mono ?_; rintro e w7 ⟨rfl, hg7⟩))
        go_meet
        case rel => exact ⟨by simp, hg6.trans hg7⟩
    case rest =>
    obtain ⟨rfl, hg4⟩ := hcut
    have hx := HX.out.gr hg4
    have a0 := gr_cell hg4 a0
    have a1 := gr_cell hg4 a1
    have c0 := gr_cell hg4 c0
    have c1 := gr_cell hg4 c1
    have hg := hg.trans hg4
    have e0 := hx.c0
    have e15 := hx.c15
    have e11 := hx.c11
    have HQ : Hid (q = (!(!(z3 && z4 && z5)) && zd)) := Lib.hid (by rw [HE.out, Bool.not_not])
    clear HE HX hx e12 e13 k0 k1 k2 hg4 cL3 cL4 cK
    generalize (!(z3 && z4 && z5)) = t at *
    rcases t
    case true =>
      as_aux_lemma =>
      have HE : Hid (false = q) := Lib.hid (by rw [HQ.out]; rfl)
      go_wp2
      go_ret
      exact ⟨ret_bool HE.out, hg⟩
    have HE : Hid (q = zd) := Lib.hid (by rw [HQ.out]; rfl)
    have cD7 : ∀ w', Calls Tryz.prog 132 #[.int .i64 n] w' fun e w'' => e = .returned (.int .i64 (n % 7)) ∧ Gr w' w'' := fun w' => (weekday_any n w').mono fun e w'' ⟨h1, h2⟩ => ⟨h1, h2 ▸ Gr.refl _⟩
    clear HQ
    generalize n % 7 = nw at *
    by_cases f3 : V.r.freq = 3
    · as_aux_lemma =>
      have HZ : Hid (zm = q) := Lib.hid (by
        rcases HO.out.1 with h | h
        · exact absurd (.inl f3) h
        · rw [HE.out, h])
      clear HE HO cWy c0 c1 e15
      rw [f3] at e0
      clear f3
      go_upto_region 8 with fail
      have a0 := after_cell a0
      have a1 := after_cell a1
      have e11 := after_cell e11
      refine wp_region_after (by kernel_rfl) (by kernel_rfl) ?_
      repeat (go_big_quiet_step (first | (go_at_call 132; exact qafter (cD7 _)) | (go_at_call 131; exact qafter (cWm _ (hg.trans (by exact (After.gr _)))))))
      refine wpQuiet_nil ?_
      rintro _ ⟨⟨w6, hg6⟩, rfl⟩
      go_wp2
      go_ret
      exact ⟨ret_bool HZ.out, hg.trans hg6⟩
    have g3 : (V.r.freq == 3) = false := beq_eq_false_iff_ne.2 f3
    by_cases h6 : V.month.n = 0
    case neg =>
      as_aux_lemma =>
      have HZ : Hid (zm = q) := Lib.hid (by
        rcases HO.out.1 with h | h
        · exact absurd (.inr h6) h
        · rw [HE.out, h])
      have hm6 : (0 : Int) < (V.month.n : Int) := by omega
      clear HE HO cWy c0 c1 h6
      generalize V.month.n = m6 at *
      generalize V.r.freq = f at *
      go_upto_region 8 with fail
      have a0 := after_cell a0
      have a1 := after_cell a1
      have e11 := after_cell e11
      refine wp_region_after (by kernel_rfl) (by kernel_rfl) ?_
      repeat (go_big_quiet_step (first | (go_at_call 132; exact qafter (cD7 _)) | (go_at_call 131; exact qafter (cWm _ (hg.trans (by exact (After.gr _)))))))
      refine wpQuiet_nil ?_
      rintro _ ⟨⟨w6, hg6⟩, rfl⟩
      go_wp2
      go_ret
      exact ⟨ret_bool HZ.out, hg.trans hg6⟩
    as_aux_lemma =>
      have HZ : Hid (zy = q) := Lib.hid (by
        rcases HO.out.2 with h | h
        · rcases h with h | h
          · exact absurd h f3
          · exact absurd h6 h
        · rw [HE.out, h])
      rw [h6] at e15
      clear HE HO cWm a0 a1 h6
      generalize V.r.freq = f at *
      go_upto_region 9 with fail
      have c0 := after_cell c0
      have c1 := after_cell c1
      have e11 := after_cell e11
      refine wp_region_after (by kernel_rfl) (by kernel_rfl) ?_
      repeat (go_big_quiet_step (first | (go_at_call 132; exact qafter (cD7 _)) | (go_at_call 131; exact qafter (cWy _ (hg.trans (by exact (After.gr _)))))))
      refine wpQuiet_nil ?_
      rintro _ ⟨⟨w6, hg6⟩, rfl⟩
      go_wp2
      go_ret
      exact ⟨ret_bool HZ.out, hg.trans hg6⟩
end Go.Proofs.YtmbmkldcedkbmaaGreat
