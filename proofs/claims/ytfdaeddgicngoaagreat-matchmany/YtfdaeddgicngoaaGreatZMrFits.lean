/- What the reference's Fits (layer 14) returns (written by mkmrfits.py). -/
import Derived.Test.YtfdaeddgicngoaaGreatZMrOn
import Derived.Test.YtfdaeddgicngoaaGreatZMrPer
import Derived.Test.YtfdaeddgicngoaaGreatZMtFits
namespace Go.Proofs.YtfdaeddgicngoaaGreat
open Go.RowKit

/- a region that is walked in the order of its text, cut behind k operations -/
theorem wpQuiet_app {P : Program} {ops : Array Oper} {C : World → Prop} {Q : Act → Prop} (l2 : List Oper) : ∀ (l1 : List Oper) (a : Act), wpQuiet P ops C (wpQuiet P ops C Q l2) l1 a → wpQuiet P ops C Q (l1 ++ l2) a
  | [], _, h => h
  | o :: l1, a, h => by
    rw [List.cons_append]
    unfold wpQuiet at h ⊢
    split
    · rename_i hw
      rw [if_pos hw] at h
      exact Oper.quiet_mono (wpQuiet_app l2 l1) h
    · rename_i hw
      rw [if_neg hw] at h
      exact wpQuiet_app l2 l1 _ h
theorem wpQuiet_mono {P : Program} {ops : Array Oper} {C : World → Prop} {Q Q' : Act → Prop} (hq : ∀ a, Q a → Q' a) : ∀ (l : List Oper) (a : Act), wpQuiet P ops C Q l a → wpQuiet P ops C Q' l a
  | [], _, h => hq _ h
  | o :: l, a, h => by
    unfold wpQuiet at h ⊢
    split
    · rename_i hw
      rw [if_pos hw] at h
      exact Oper.quiet_mono (wpQuiet_mono hq l) h
    · rename_i hw
      rw [if_neg hw] at h
      exact wpQuiet_mono hq l _ h
theorem wpQuiet_cut {P : Program} {ops : Array Oper} {C : World → Prop} {Q : Act → Prop} {l : List Oper} {a : Act} (k : Nat) (R : Act → Prop) (h1 : wpQuiet P ops C R (l.take k) a) (h2 : ∀ a', R a' → wpQuiet P ops C Q (l.drop k) a') : wpQuiet P ops C Q l a := by
  rw [← List.take_append_drop k l]
  exact wpQuiet_app _ _ _ (wpQuiet_mono h2 _ _ h1)
theorem same_gr {f : FuncId} {args : Array Value} {w : World} {v : Value} (h : Calls Tryz.prog f args w fun e w' => e = .returned v ∧ w = w') : Calls Tryz.prog f args w fun e w' => e = .returned v ∧ Gr w w' :=
  h.mono fun _ _ ⟨h1, h2⟩ => ⟨h1, h2 ▸ Gr.refl _⟩
set_option maxRecDepth 100000 in
set_option maxHeartbeats 16000000 in
theorem rfits14_any (V : Rm.Rv) (b n : Int) (w : World) (hM : RuM w w.heap.size V) (hd : V.day.n ≤ 140737488355328) (hn : ∀ i, i < 8 → (V.sl i).n ≤ 140737488355328) (hf : Rm.fm V.r = true) (hb : Cal.dayB b = true) (h : Cal.dayB n = true) :
    Calls Tryz.prog 10 #[.agg V.val, .int .i64 b, .int .i64 n] w fun e w' => e = .returned (.bool (Mc.fits V.r b n)) ∧ Gr w w' := by
  obtain ⟨f1, ⟨i1, i2⟩, f3⟩ := fm_head hf
  obtain ⟨n1, n2⟩ := Cal.dayB_iff.1 h
  obtain ⟨b1, b2⟩ := Cal.dayB_iff.1 hb
  have yb := Cal.yr_bd n1 n2
  have mb : 1 ≤ Cal.mon n ∧ Cal.mon n ≤ 12 := Cal.mo_bd (Cal.yr n) (n - Cal.dby (Cal.yr n))
  have lb2 := Cal.dim_bd (Cal.yr n) (Cal.mon n)
  obtain ⟨hok, _⟩ := Cal.date_spec h
  obtain ⟨_, _, d1, d2⟩ := Cal.okB_iff.1 hok
  have yl := Mc.ylen_cases (Cal.yr n)
  have yr1 := Mc.year_of n
  have lb := Cal.dby_bdw (a := Cal.yr n) (by omega) (by omega)
  have pb := per_bd f1 f3 hb h
  have hg : Gr w (w.alloc (.cells V.val 27)) := (Gr.refl w).allocO _
  have hbx := RBx.now w V 27
  have ylb : 1 ≤ n - Cal.dby (Cal.yr n) ∧ n - Cal.dby (Cal.yr n) ≤ Mc.ylen (Cal.yr n) := by unfold Mc.ylen; omega
  have cP := fun w' => rper_any V b n w' f3 hb h
  have cB := fun w' => rdate14_any b w' hb
  have cN := fun w' => rdate14_any n w' h
  have cF := fun w' => fixed0_any (Cal.yr n) 1 1 w' (by omega) (by omega) (by omega) (by omega) (by omega) (by omega)
  rw [Mc.num_jan] at cF
  have cY := fun w' => ryear_any (Cal.yr n) w' (by omega) (by omega)
  have cL := fun w' => reflength0 (Cal.yr n) (Cal.mon n) (by omega) (by omega) w'
  have cW := fun x (x1 : -1000000000 ≤ x) (x2 : x ≤ 1000000000) w' => rweekday_any x w' x1 x2
  have c6 := fun w' (g : Gr w w') => rhas_any V.month.A V.month.n V.month.c V.r.month (Cal.mon n) w' ((hM.l 6 (by decide)).gr g) (hn 6 (by decide))
  have c5 := fun w' (g : Gr w w') => rinweek_any V n w' (hM.gr g) f3 (hn 5 (by decide)) h
  have c4 := fun w' (g : Gr w w') => rcnt14_any V.yday.A V.yday.n V.yday.c V.r.yday (n - Cal.dby (Cal.yr n)) (Mc.ylen (Cal.yr n)) w' ((hM.l 4 (by decide)).gr g) (hn 4 (by decide)) (by omega) (by omega) (by omega) (by omega)
  have c3 := fun w' (g : Gr w w') => rcnt14_any V.mday.A V.mday.n V.mday.c V.r.mday (Cal.dom n) (Cal.dim (Cal.yr n) (Cal.mon n)) w' ((hM.l 3 (by decide)).gr g) (hn 3 (by decide)) (by omega) (by omega) (by omega) (by omega)
  have cd := fun w' (g : Gr w w') => ronday_any V n w' (hM.gr g) hd (hn 6 (by decide)) h
  have l3 : V.r.mday.length = V.mday.n := (hM.l 3 (by decide)).1
  have l4 : V.r.yday.length = V.yday.n := (hM.l 4 (by decide)).1
  have l5 : V.r.week.length = V.week.n := (hM.l 5 (by decide)).1
  have l6 : V.r.month.length = V.month.n := (hM.l 6 (by decide)).1
  have ld : V.r.day.length = V.day.n := hM.d.1
  have bd3 : V.mday.n ≤ 140737488355328 := hn 3 (by decide)
  have bd4 : V.yday.n ≤ 140737488355328 := hn 4 (by decide)
  have bd5 : V.week.n ≤ 140737488355328 := hn 5 (by decide)
  have bd6 : V.month.n ≤ 140737488355328 := hn 6 (by decide)
  have bdD : V.day.n ≤ 140737488355328 := hd
  have HI : Hid (Mc.fits V.r b n = (decide (0 ≤ Mc.per V.r b n) && decide (Mc.per V.r b n % V.r.ivl = 0) &&
      ((decide (V.month.n = 0) || Mc.hasB V.r.month (Cal.mon n)) && (decide (V.week.n = 0) || Mc.inW V.r n) && (decide (V.yday.n = 0) || Mc.cntB V.r.yday (n - Cal.dby (Cal.yr n)) (Mc.ylen (Cal.yr n))) && (decide (V.mday.n = 0) || Mc.cntB V.r.mday (Cal.dom n) (Cal.dim (Cal.yr n) (Cal.mon n))) && (decide (V.day.n = 0) || Mc.onD V.r n)) &&
      (!(decide (V.yday.n = 0) && decide (V.mday.n = 0) && decide (V.day.n = 0)) ||
        if V.r.freq = 2 then b % 7 == n % 7 else if V.r.freq = 3 then Cal.dom b == Cal.dom n else if V.r.freq = 4 ∧ V.week.n ≠ 0 then b % 7 == n % 7 else if V.r.freq = 4 then Cal.dom b == Cal.dom n && (!decide (V.month.n = 0) || Cal.mon b == Cal.mon n) else true))) := Lib.hid (by
    unfold Mc.fits Mc.lstB Mc.sml
    rw [emp_len l3, emp_len l4, emp_len l5, emp_len l6, emp_len ld]
    simp only [ne_len l5])
  obtain ⟨q, hq⟩ : ∃ q, Mc.fits V.r b n = q := ⟨_, rfl⟩
  rw [hq] at HI ⊢
  have HX := Lib.hid hbx
  clear hq hM hd hn hf hb h f1 f3 l3 l4 l5 l6 ld d1 d2 hok hbx yr1
  generalize Mc.per V.r b n = p at *
  generalize Mc.hasB V.r.month (Cal.mon n) = z6 at *
  generalize Mc.inW V.r n = z5 at *
  generalize Mc.cntB V.r.yday (n - Cal.dby (Cal.yr n)) (Mc.ylen (Cal.yr n)) = z4 at *
  generalize Mc.cntB V.r.mday (Cal.dom n) (Cal.dim (Cal.yr n) (Cal.mon n)) = z3 at *
  generalize Mc.onD V.r n = zd at *
  generalize Cal.dim (Cal.yr n) (Cal.mon n) = di at *
  have hiv0 : V.r.ivl ≠ 0 := by omega
  go_enter Tryz.func10, Tryz.ntmps10
  go_upto_region 1 with fail
  generalize w.alloc (.cells V.val 27) = W at *
  go_wp2_with (refine wpList_load_rule rfl _ rfl rfl HX.out ?_)
  refine (cP _).mono ?_
  rintro e w1 ⟨rfl, hg1⟩
  have hbx := HX.out.gr hg1
  have hg := hg.trans hg1
  have e1 := hbx.c1
  clear cP hg1 HX
  have HX := Lib.hid hbx
  clear hbx
  go_upto_region 2 with fail
  go_cut [24] from 16 (fun v wx => v = .bool (!(decide (0 ≤ p) && decide (p % V.r.ivl = 0))) ∧ w1 = wx)
  case first =>
    by_cases hp : 0 ≤ p
    · as_aux_lemma =>
      have HE : Hid ((!(p % V.r.ivl == 0)) = !(decide (0 ≤ p) && decide (p % V.r.ivl = 0))) := Lib.hid (by
        congr 1
        rw [decide_eq_true hp, Bool.true_and, Bool.eq_iff_iff, beq_iff_eq, decide_eq_true_eq])
      have tb : -1000 ≤ p.tmod V.r.ivl ∧ p.tmod V.r.ivl ≤ 1000 := by
        have := Int.tmod_lt_of_pos p (b := V.r.ivl) (by omega)
        have := Int.tmod_nonneg V.r.ivl hp
        omega
      have hp2 : decide (p < 0) = false := by simp; omega
      generalize (!(decide (0 ≤ p) && decide (p % V.r.ivl = 0))) = t at *
      generalize V.r.ivl = iv at *
      clear HI HX
      go_wp2
      go_meet
      case rel => exact ⟨by rw [← HE.out]; rfl, rfl⟩
    · as_aux_lemma =>
      have HE : Hid (true = !(decide (0 ≤ p) && decide (p % V.r.ivl = 0))) := Lib.hid (by rw [decide_eq_false hp]; rfl)
      have hp2 : p < 0 := by omega
      clear HI HX
      generalize (!(decide (0 ≤ p) && decide (p % V.r.ivl = 0))) = t at *
      go_wp2
      go_meet
      case rel => exact ⟨by rw [HE.out], rfl⟩
  case rest =>
  obtain ⟨rfl, rfl⟩ := hcut
  generalize (decide (0 ≤ p) && decide (p % V.r.ivl = 0)) = t at *
  rcases t
  · as_aux_lemma =>
    have HE : Hid (false = q) := Lib.hid (by rw [HI.out]; rfl)
    go_wp2
    go_ret
    exact ⟨ret_bool HE.out, hg⟩
  go_wp2_with fail
  refine (cB _).mono ?_
  rintro e w2 ⟨rfl, hg2⟩
  go_wp2_with fail
  refine (cN _).mono ?_
  rintro e w3 ⟨rfl, hg3⟩
  have hgA : Gr w3 (w3.alloc (.cells #[.int .i64 (Cal.yr b), .int .i64 (Cal.mon b), .int .i64 (Cal.dom b)] 50)) := (Gr.refl w3).allocO _
  have hgB : Gr (w3.alloc (.cells #[.int .i64 (Cal.yr b), .int .i64 (Cal.mon b), .int .i64 (Cal.dom b)] 50)) ((w3.alloc (.cells #[.int .i64 (Cal.yr b), .int .i64 (Cal.mon b), .int .i64 (Cal.dom b)] 50)).alloc (.cells #[.int .i64 (Cal.yr n), .int .i64 (Cal.mon n), .int .i64 (Cal.dom n)] 50)) := (Gr.refl _).allocO _
  have hsz : (w3.alloc (.cells #[.int .i64 (Cal.yr b), .int .i64 (Cal.mon b), .int .i64 (Cal.dom b)] 50)).heap.size = w3.heap.size + 1 := by simp
  obtain ⟨j0, j1, j2⟩ := box3 hgB
  obtain ⟨k0, k1, k2⟩ := box_now (w3.alloc (.cells #[.int .i64 (Cal.yr b), .int .i64 (Cal.mon b), .int .i64 (Cal.dom b)] 50)) (.int .i64 (Cal.yr n)) (.int .i64 (Cal.mon n)) (.int .i64 (Cal.dom n)) 50
  rw [hsz] at k0 k1 k2
  have hbx := HX.out.gr (((hg2.trans hg3).trans hgA).trans hgB)
  have hg := (((hg.trans hg2).trans hg3).trans hgA).trans hgB
  clear hgA hgB hsz j0 hg2 hg3 cB cN HX e1
  have e0 := hbx.c0
  have e11 := hbx.c11
  have e12 := hbx.c12
  have e13 := hbx.c13
  have e14 := hbx.c14
  have e15 := hbx.c15
  have HX := Lib.hid hbx
  clear hbx
  go_upto_region 5 with fail
  generalize (w3.alloc (.cells #[.int .i64 (Cal.yr b), .int .i64 (Cal.mon b), .int .i64 (Cal.dom b)] 50)).alloc (.cells #[.int .i64 (Cal.yr n), .int .i64 (Cal.mon n), .int .i64 (Cal.dom n)] 50) = W2 at *
  go_upto_region 6 with (go_at_call 21; refine (cF _).mono ?_; rintro e w' ⟨rfl, rfl⟩)
  have HJ : Hid (q = (((decide (V.month.n = 0) || z6) && (decide (V.week.n = 0) || z5) && (decide (V.yday.n = 0) || z4) && (decide (V.mday.n = 0) || z3) && (decide (V.day.n = 0) || zd)) &&
      (!(decide (V.yday.n = 0) && decide (V.mday.n = 0) && decide (V.day.n = 0)) ||
        if V.r.freq = 2 then b % 7 == n % 7 else if V.r.freq = 3 then Cal.dom b == Cal.dom n else if V.r.freq = 4 ∧ V.week.n ≠ 0 then b % 7 == n % 7 else if V.r.freq = 4 then Cal.dom b == Cal.dom n && (!decide (V.month.n = 0) || Cal.mon b == Cal.mon n) else true))) := Lib.hid (by rw [HI.out, Bool.true_and])
  clear HI
  have hor : ∀ (m : Nat) (z : Bool), (m = 0 → (decide (m = 0) || z) = true) ∧ (m ≠ 0 → (decide (m = 0) || z) = z) := fun m z => ⟨fun e => by rw [decide_eq_true e]; rfl, fun e => by rw [decide_eq_false e]; rfl⟩
  have HB6 := Lib.hid (hor V.month.n z6)
  have HB5 := Lib.hid (hor V.week.n z5)
  have HB4 := Lib.hid (hor V.yday.n z4)
  have HB3 := Lib.hid (hor V.mday.n z3)
  have HBd := Lib.hid (hor V.day.n zd)
  clear hor
  generalize (decide (V.month.n = 0) || z6) = b6 at *
  generalize (decide (V.week.n = 0) || z5) = b5 at *
  generalize (decide (V.yday.n = 0) || z4) = b4 at *
  generalize (decide (V.mday.n = 0) || z3) = b3 at *
  generalize (decide (V.day.n = 0) || zd) = bd at *
  generalize V.month.n = m6 at *
  generalize V.week.n = m5 at *
  generalize V.yday.n = m4 at *
  generalize V.mday.n = m3 at *
  generalize V.day.n = md at *
  generalize V.month.A = A6 at *
  generalize V.week.A = A5 at *
  generalize V.yday.A = A4 at *
  generalize V.mday.A = A3 at *
  generalize V.day.A = Ad at *
  generalize V.month.c = x6 at *
  generalize V.week.c = x5 at *
  generalize V.yday.c = x4 at *
  generalize V.mday.c = x3 at *
  generalize V.day.c = xd at *
  have hdn : n - (Cal.dby (Cal.yr n) + 1) + 1 = n - Cal.dby (Cal.yr n) := by omega
  obtain ⟨t, ht⟩ : ∃ t, (!(b6 && b5 && b4 && b3 && bd)) = t := ⟨_, rfl⟩
  have hI := Lib.hid (And.intro pb yb)
  rw [← hdn] at c4
  go_cut [105] from 35 (fun v wx => v = .bool t ∧ Gr W2 wx)
  case first =>
    clear HJ j1 j2 e0 cW hdn
    have hx := after_rule HX.out
    have e11 := after_cell e11
    have e12 := after_cell e12
    have e13 := after_cell e13
    have e14 := after_cell e14
    have e15 := after_cell e15
    have k0 := after_cell k0
    have k1 := after_cell k1
    have k2 := after_cell k2
    have q6 := fun w' (g : Gr w w') => same_gr (c6 w' g)
    have q4 := fun w' (g : Gr w w') => same_gr (c4 w' g)
    have q3 := fun w' (g : Gr w w') => same_gr (c3 w' g)
    have qY := fun w' => same_gr (cY w')
    have qL := fun w' => same_gr (cL w')
    obtain ⟨T1, hT1⟩ : ∃ T, (false || !b6) = T := ⟨_, rfl⟩
    obtain ⟨T2, hT2⟩ : ∃ T, (T1 || !b5) = T := ⟨_, rfl⟩
    obtain ⟨T3, hT3⟩ : ∃ T, (T2 || !b4) = T := ⟨_, rfl⟩
    obtain ⟨T4, hT4⟩ : ∃ T, (T3 || !b3) = T := ⟨_, rfl⟩
    obtain ⟨T5, hT5⟩ : ∃ T, (T4 || !bd) = T := ⟨_, rfl⟩
    have hT : T5 = t := by
      rw [← ht, ← hT5, ← hT4, ← hT3, ← hT2, ← hT1]
      simp [Bool.not_and]
    have HT := Lib.hid hT
    clear hT ht c6 c4 c3 cY cL
    dsimp only [List.append]
    refine wp_region_after (by kernel_rfl) (by kernel_rfl) ?_
    refine wpQuiet_cut 12 (fun a' => ∃ (v35 v36 v37 v38 v39 v40 v41 v42 v43 v44 v45 : Value), a' = { tmps := #[.agg V.val, .int .i64 b, .int .i64 n, .pointer (some ⟨w.heap.size, 0, none⟩), undef, undef, .bool false, .int .i64 p, .pointer (some ⟨w3.heap.size, 0, none⟩), .pointer (some ⟨w3.heap.size + 1, 0, none⟩), .int .i64 (n - (Cal.dby (Cal.yr n) + 1) + 1), undef, .agg V.val, .int .i64 b, .int .i64 n, .int .i64 p, u16, u17, u18, u19, u20, u21, u22, u23, .bool false, .int .i64 b, .agg #[.int .i64 (Cal.yr b), .int .i64 (Cal.mon b), .int .i64 (Cal.dom b)], .int .i64 n, .agg #[.int .i64 (Cal.yr n), .int .i64 (Cal.mon n), .int .i64 (Cal.dom n)], .int .i64 n, .pointer (some ⟨w3.heap.size + 1, 0, none⟩), .int .i64 (Cal.yr n), .int .i64 (Cal.dby (Cal.yr n) + 1), .int .i64 (n - (Cal.dby (Cal.yr n) + 1)), .int .i64 (n - (Cal.dby (Cal.yr n) + 1) + 1), v35, v36, v37, v38, v39, v40, v41, v42, v43, v44, v45, .bool T1, u47, u48, u49, u50, u51, u52, u53, u54, u55, u56, u57, u58, u59, u60, u61, u62, u63, u64, u65, u66, u67, u68, u69, u70, u71, u72, u73, u74, u75, u76, u77, u78, u79, u80, u81, u82, u83, u84, u85, u86, u87, u88, u89, u90, u91, u92, u93, u94, u95, u96, u97, u98, u99, u100, u101, u102, u103, u104, u105, u106, u107, u108, u109, u110, u111, u112, u113, u114, u115, u116, u117, u118, u119, u120, u121, u122, u123, u124, u125, u126, u127, u128, u129, u130, u131, u132, u133, u134, u135, u136, u137, u138, u139, u140, u141, u142, u143, u144, u145, u146, u147, u148, u149, u150, u151, u152, u153, u154, u155, u156, u157, u158, u159, u160, u161, u162, u163, u164, u165, u166, u167, u168, u169], defers := [] }) ?_ ?_
    · simp only [List.take_succ_cons, List.take_zero]
      rcases Nat.eq_zero_or_pos m6 with h | h
      · as_aux_lemma =>
        obtain rfl : T1 = false := by rw [← hT1, HB6.out.1 h]; rfl
        subst h
        repeat (first | (go_big_quiet_want; (refine quiet_rule _ rfl rfl hx ?_); (try simp only [Act.put, List.setIfInBounds_toArray, List.set_cons_zero, List.set_cons_succ]); go_big_quiet_on) | go_big_quiet_step (first | (go_at_call 22; exact qafter (q6 _ (hg.trans (by exact (After.gr _)))))))
        refine wpQuiet_nil ?_
        exact ⟨_, _, _, _, _, _, _, _, _, _, _, rfl⟩
      · as_aux_lemma =>
        obtain rfl : T1 = !z6 := by rw [← hT1, HB6.out.2 (by omega), Bool.false_or]
        have hp : (0 : Int) < (m6 : Int) := by omega
        repeat (first | (go_big_quiet_want; (refine quiet_rule _ rfl rfl hx ?_); (try simp only [Act.put, List.setIfInBounds_toArray, List.set_cons_zero, List.set_cons_succ]); go_big_quiet_on) | go_big_quiet_step (first | (go_at_call 22; exact qafter (q6 _ (hg.trans (by exact (After.gr _)))))))
        refine wpQuiet_nil ?_
        exact ⟨_, _, _, _, _, _, _, _, _, _, _, rfl⟩
    simp only [List.drop_succ_cons, List.drop_zero]
    rintro _ ⟨v35, v36, v37, v38, v39, v40, v41, v42, v43, v44, v45, rfl⟩
    refine wpQuiet_cut 12 (fun a' => ∃ (v35 v36 v37 v38 v39 v40 v41 v42 v43 v44 v45 v46 v47 v48 v49 v50 v51 v52 v53 v54 v55 v56 v57 : Value), a' = { tmps := #[.agg V.val, .int .i64 b, .int .i64 n, .pointer (some ⟨w.heap.size, 0, none⟩), undef, undef, .bool false, .int .i64 p, .pointer (some ⟨w3.heap.size, 0, none⟩), .pointer (some ⟨w3.heap.size + 1, 0, none⟩), .int .i64 (n - (Cal.dby (Cal.yr n) + 1) + 1), undef, .agg V.val, .int .i64 b, .int .i64 n, .int .i64 p, u16, u17, u18, u19, u20, u21, u22, u23, .bool false, .int .i64 b, .agg #[.int .i64 (Cal.yr b), .int .i64 (Cal.mon b), .int .i64 (Cal.dom b)], .int .i64 n, .agg #[.int .i64 (Cal.yr n), .int .i64 (Cal.mon n), .int .i64 (Cal.dom n)], .int .i64 n, .pointer (some ⟨w3.heap.size + 1, 0, none⟩), .int .i64 (Cal.yr n), .int .i64 (Cal.dby (Cal.yr n) + 1), .int .i64 (n - (Cal.dby (Cal.yr n) + 1)), .int .i64 (n - (Cal.dby (Cal.yr n) + 1) + 1), v35, v36, v37, v38, v39, v40, v41, v42, v43, v44, v45, v46, v47, v48, v49, v50, v51, v52, v53, v54, v55, v56, v57, .bool T2, u59, u60, u61, u62, u63, u64, u65, u66, u67, u68, u69, u70, u71, u72, u73, u74, u75, u76, u77, u78, u79, u80, u81, u82, u83, u84, u85, u86, u87, u88, u89, u90, u91, u92, u93, u94, u95, u96, u97, u98, u99, u100, u101, u102, u103, u104, u105, u106, u107, u108, u109, u110, u111, u112, u113, u114, u115, u116, u117, u118, u119, u120, u121, u122, u123, u124, u125, u126, u127, u128, u129, u130, u131, u132, u133, u134, u135, u136, u137, u138, u139, u140, u141, u142, u143, u144, u145, u146, u147, u148, u149, u150, u151, u152, u153, u154, u155, u156, u157, u158, u159, u160, u161, u162, u163, u164, u165, u166, u167, u168, u169], defers := [] }) ?_ ?_
    · simp only [List.take_succ_cons, List.take_zero]
      rcases T1
      case true =>
        as_aux_lemma =>
        obtain rfl : T2 = true := by rw [← hT2]; rfl
        repeat (first | (go_big_quiet_want; (refine quiet_rule _ rfl rfl hx ?_); (try simp only [Act.put, List.setIfInBounds_toArray, List.set_cons_zero, List.set_cons_succ]); go_big_quiet_on) | go_big_quiet_step (first | (go_at_call 23; exact qafter (c5 _ (hg.trans (by exact (After.gr _)))))))
        refine wpQuiet_nil ?_
        exact ⟨_, _, _, _, _, _, _, _, _, _, _, _, _, _, _, _, _, _, _, _, _, _, _, rfl⟩
      rcases Nat.eq_zero_or_pos m5 with h | h
      · as_aux_lemma =>
        obtain rfl : T2 = false := by rw [← hT2, HB5.out.1 h]; rfl
        subst h
        repeat (first | (go_big_quiet_want; (refine quiet_rule _ rfl rfl hx ?_); (try simp only [Act.put, List.setIfInBounds_toArray, List.set_cons_zero, List.set_cons_succ]); go_big_quiet_on) | go_big_quiet_step (first | (go_at_call 23; exact qafter (c5 _ (hg.trans (by exact (After.gr _)))))))
        refine wpQuiet_nil ?_
        exact ⟨_, _, _, _, _, _, _, _, _, _, _, _, _, _, _, _, _, _, _, _, _, _, _, rfl⟩
      · as_aux_lemma =>
        obtain rfl : T2 = !z5 := by rw [← hT2, HB5.out.2 (by omega), Bool.false_or]
        have hp : (0 : Int) < (m5 : Int) := by omega
        repeat (first | (go_big_quiet_want; (refine quiet_rule _ rfl rfl hx ?_); (try simp only [Act.put, List.setIfInBounds_toArray, List.set_cons_zero, List.set_cons_succ]); go_big_quiet_on) | go_big_quiet_step (first | (go_at_call 23; exact qafter (c5 _ (hg.trans (by exact (After.gr _)))))))
        refine wpQuiet_nil ?_
        exact ⟨_, _, _, _, _, _, _, _, _, _, _, _, _, _, _, _, _, _, _, _, _, _, _, rfl⟩
    simp only [List.drop_succ_cons, List.drop_zero]
    rintro _ ⟨v35, v36, v37, v38, v39, v40, v41, v42, v43, v44, v45, v46, v47, v48, v49, v50, v51, v52, v53, v54, v55, v56, v57, rfl⟩
    refine wpQuiet_cut 16 (fun a' => ∃ (v35 v36 v37 v38 v39 v40 v41 v42 v43 v44 v45 v46 v47 v48 v49 v50 v51 v52 v53 v54 v55 v56 v57 v58 v59 v60 v61 v62 v63 v64 v65 v66 v67 v68 v69 v70 v71 v72 v73 : Value), a' = { tmps := #[.agg V.val, .int .i64 b, .int .i64 n, .pointer (some ⟨w.heap.size, 0, none⟩), undef, undef, .bool false, .int .i64 p, .pointer (some ⟨w3.heap.size, 0, none⟩), .pointer (some ⟨w3.heap.size + 1, 0, none⟩), .int .i64 (n - (Cal.dby (Cal.yr n) + 1) + 1), undef, .agg V.val, .int .i64 b, .int .i64 n, .int .i64 p, u16, u17, u18, u19, u20, u21, u22, u23, .bool false, .int .i64 b, .agg #[.int .i64 (Cal.yr b), .int .i64 (Cal.mon b), .int .i64 (Cal.dom b)], .int .i64 n, .agg #[.int .i64 (Cal.yr n), .int .i64 (Cal.mon n), .int .i64 (Cal.dom n)], .int .i64 n, .pointer (some ⟨w3.heap.size + 1, 0, none⟩), .int .i64 (Cal.yr n), .int .i64 (Cal.dby (Cal.yr n) + 1), .int .i64 (n - (Cal.dby (Cal.yr n) + 1)), .int .i64 (n - (Cal.dby (Cal.yr n) + 1) + 1), v35, v36, v37, v38, v39, v40, v41, v42, v43, v44, v45, v46, v47, v48, v49, v50, v51, v52, v53, v54, v55, v56, v57, v58, v59, v60, v61, v62, v63, v64, v65, v66, v67, v68, v69, v70, v71, v72, v73, .bool T3, u75, u76, u77, u78, u79, u80, u81, u82, u83, u84, u85, u86, u87, u88, u89, u90, u91, u92, u93, u94, u95, u96, u97, u98, u99, u100, u101, u102, u103, u104, u105, u106, u107, u108, u109, u110, u111, u112, u113, u114, u115, u116, u117, u118, u119, u120, u121, u122, u123, u124, u125, u126, u127, u128, u129, u130, u131, u132, u133, u134, u135, u136, u137, u138, u139, u140, u141, u142, u143, u144, u145, u146, u147, u148, u149, u150, u151, u152, u153, u154, u155, u156, u157, u158, u159, u160, u161, u162, u163, u164, u165, u166, u167, u168, u169], defers := [] }) ?_ ?_
    · simp only [List.take_succ_cons, List.take_zero]
      rcases T2
      case true =>
        as_aux_lemma =>
        obtain rfl : T3 = true := by rw [← hT3]; rfl
        repeat (first | (go_big_quiet_want; (refine quiet_rule _ rfl rfl hx ?_); (try simp only [Act.put, List.setIfInBounds_toArray, List.set_cons_zero, List.set_cons_succ]); go_big_quiet_on) | go_big_quiet_step (first | (go_at_call 25; exact qafter (qY _)) | (go_at_call 24; exact qafter (q4 _ (hg.trans (by exact (After.gr _)))))))
        refine wpQuiet_nil ?_
        exact ⟨_, _, _, _, _, _, _, _, _, _, _, _, _, _, _, _, _, _, _, _, _, _, _, _, _, _, _, _, _, _, _, _, _, _, _, _, _, _, _, rfl⟩
      rcases Nat.eq_zero_or_pos m4 with h | h
      · as_aux_lemma =>
        obtain rfl : T3 = false := by rw [← hT3, HB4.out.1 h]; rfl
        subst h
        repeat (first | (go_big_quiet_want; (refine quiet_rule _ rfl rfl hx ?_); (try simp only [Act.put, List.setIfInBounds_toArray, List.set_cons_zero, List.set_cons_succ]); go_big_quiet_on) | go_big_quiet_step (first | (go_at_call 25; exact qafter (qY _)) | (go_at_call 24; exact qafter (q4 _ (hg.trans (by exact (After.gr _)))))))
        refine wpQuiet_nil ?_
        exact ⟨_, _, _, _, _, _, _, _, _, _, _, _, _, _, _, _, _, _, _, _, _, _, _, _, _, _, _, _, _, _, _, _, _, _, _, _, _, _, _, rfl⟩
      · as_aux_lemma =>
        obtain rfl : T3 = !z4 := by rw [← hT3, HB4.out.2 (by omega), Bool.false_or]
        have hp : (0 : Int) < (m4 : Int) := by omega
        repeat (first | (go_big_quiet_want; (refine quiet_rule _ rfl rfl hx ?_); (try simp only [Act.put, List.setIfInBounds_toArray, List.set_cons_zero, List.set_cons_succ]); go_big_quiet_on) | go_big_quiet_step (first | (go_at_call 25; exact qafter (qY _)) | (go_at_call 24; exact qafter (q4 _ (hg.trans (by exact (After.gr _)))))))
        refine wpQuiet_nil ?_
        exact ⟨_, _, _, _, _, _, _, _, _, _, _, _, _, _, _, _, _, _, _, _, _, _, _, _, _, _, _, _, _, _, _, _, _, _, _, _, _, _, _, rfl⟩
    simp only [List.drop_succ_cons, List.drop_zero]
    rintro _ ⟨v35, v36, v37, v38, v39, v40, v41, v42, v43, v44, v45, v46, v47, v48, v49, v50, v51, v52, v53, v54, v55, v56, v57, v58, v59, v60, v61, v62, v63, v64, v65, v66, v67, v68, v69, v70, v71, v72, v73, rfl⟩
    refine wpQuiet_cut 19 (fun a' => ∃ (v35 v36 v37 v38 v39 v40 v41 v42 v43 v44 v45 v46 v47 v48 v49 v50 v51 v52 v53 v54 v55 v56 v57 v58 v59 v60 v61 v62 v63 v64 v65 v66 v67 v68 v69 v70 v71 v72 v73 v74 v75 v76 v77 v78 v79 v80 v81 v82 v83 v84 v85 v86 v87 v88 v89 v90 v91 v92 : Value), a' = { tmps := #[.agg V.val, .int .i64 b, .int .i64 n, .pointer (some ⟨w.heap.size, 0, none⟩), undef, undef, .bool false, .int .i64 p, .pointer (some ⟨w3.heap.size, 0, none⟩), .pointer (some ⟨w3.heap.size + 1, 0, none⟩), .int .i64 (n - (Cal.dby (Cal.yr n) + 1) + 1), undef, .agg V.val, .int .i64 b, .int .i64 n, .int .i64 p, u16, u17, u18, u19, u20, u21, u22, u23, .bool false, .int .i64 b, .agg #[.int .i64 (Cal.yr b), .int .i64 (Cal.mon b), .int .i64 (Cal.dom b)], .int .i64 n, .agg #[.int .i64 (Cal.yr n), .int .i64 (Cal.mon n), .int .i64 (Cal.dom n)], .int .i64 n, .pointer (some ⟨w3.heap.size + 1, 0, none⟩), .int .i64 (Cal.yr n), .int .i64 (Cal.dby (Cal.yr n) + 1), .int .i64 (n - (Cal.dby (Cal.yr n) + 1)), .int .i64 (n - (Cal.dby (Cal.yr n) + 1) + 1), v35, v36, v37, v38, v39, v40, v41, v42, v43, v44, v45, v46, v47, v48, v49, v50, v51, v52, v53, v54, v55, v56, v57, v58, v59, v60, v61, v62, v63, v64, v65, v66, v67, v68, v69, v70, v71, v72, v73, v74, v75, v76, v77, v78, v79, v80, v81, v82, v83, v84, v85, v86, v87, v88, v89, v90, v91, v92, .bool T4, u94, u95, u96, u97, u98, u99, u100, u101, u102, u103, u104, u105, u106, u107, u108, u109, u110, u111, u112, u113, u114, u115, u116, u117, u118, u119, u120, u121, u122, u123, u124, u125, u126, u127, u128, u129, u130, u131, u132, u133, u134, u135, u136, u137, u138, u139, u140, u141, u142, u143, u144, u145, u146, u147, u148, u149, u150, u151, u152, u153, u154, u155, u156, u157, u158, u159, u160, u161, u162, u163, u164, u165, u166, u167, u168, u169], defers := [] }) ?_ ?_
    · simp only [List.take_succ_cons, List.take_zero]
      rcases T3
      case true =>
        as_aux_lemma =>
        obtain rfl : T4 = true := by rw [← hT4]; rfl
        repeat (first | (go_big_quiet_want; (refine quiet_rule _ rfl rfl hx ?_); (try simp only [Act.put, List.setIfInBounds_toArray, List.set_cons_zero, List.set_cons_succ]); go_big_quiet_on) | go_big_quiet_step (first | (go_at_call 26; exact qafter (qL _)) | (go_at_call 24; exact qafter (q3 _ (hg.trans (by exact (After.gr _)))))))
        refine wpQuiet_nil ?_
        exact ⟨_, _, _, _, _, _, _, _, _, _, _, _, _, _, _, _, _, _, _, _, _, _, _, _, _, _, _, _, _, _, _, _, _, _, _, _, _, _, _, _, _, _, _, _, _, _, _, _, _, _, _, _, _, _, _, _, _, _, rfl⟩
      rcases Nat.eq_zero_or_pos m3 with h | h
      · as_aux_lemma =>
        obtain rfl : T4 = false := by rw [← hT4, HB3.out.1 h]; rfl
        subst h
        repeat (first | (go_big_quiet_want; (refine quiet_rule _ rfl rfl hx ?_); (try simp only [Act.put, List.setIfInBounds_toArray, List.set_cons_zero, List.set_cons_succ]); go_big_quiet_on) | go_big_quiet_step (first | (go_at_call 26; exact qafter (qL _)) | (go_at_call 24; exact qafter (q3 _ (hg.trans (by exact (After.gr _)))))))
        refine wpQuiet_nil ?_
        exact ⟨_, _, _, _, _, _, _, _, _, _, _, _, _, _, _, _, _, _, _, _, _, _, _, _, _, _, _, _, _, _, _, _, _, _, _, _, _, _, _, _, _, _, _, _, _, _, _, _, _, _, _, _, _, _, _, _, _, _, rfl⟩
      · as_aux_lemma =>
        obtain rfl : T4 = !z3 := by rw [← hT4, HB3.out.2 (by omega), Bool.false_or]
        have hp : (0 : Int) < (m3 : Int) := by omega
        repeat (first | (go_big_quiet_want; (refine quiet_rule _ rfl rfl hx ?_); (try simp only [Act.put, List.setIfInBounds_toArray, List.set_cons_zero, List.set_cons_succ]); go_big_quiet_on) | go_big_quiet_step (first | (go_at_call 26; exact qafter (qL _)) | (go_at_call 24; exact qafter (q3 _ (hg.trans (by exact (After.gr _)))))))
        refine wpQuiet_nil ?_
        exact ⟨_, _, _, _, _, _, _, _, _, _, _, _, _, _, _, _, _, _, _, _, _, _, _, _, _, _, _, _, _, _, _, _, _, _, _, _, _, _, _, _, _, _, _, _, _, _, _, _, _, _, _, _, _, _, _, _, _, _, rfl⟩
    simp only [List.drop_succ_cons, List.drop_zero]
    rintro _ ⟨v35, v36, v37, v38, v39, v40, v41, v42, v43, v44, v45, v46, v47, v48, v49, v50, v51, v52, v53, v54, v55, v56, v57, v58, v59, v60, v61, v62, v63, v64, v65, v66, v67, v68, v69, v70, v71, v72, v73, v74, v75, v76, v77, v78, v79, v80, v81, v82, v83, v84, v85, v86, v87, v88, v89, v90, v91, v92, rfl⟩
    refine wpQuiet_cut 12 (fun a' => ∃ (v35 v36 v37 v38 v39 v40 v41 v42 v43 v44 v45 v46 v47 v48 v49 v50 v51 v52 v53 v54 v55 v56 v57 v58 v59 v60 v61 v62 v63 v64 v65 v66 v67 v68 v69 v70 v71 v72 v73 v74 v75 v76 v77 v78 v79 v80 v81 v82 v83 v84 v85 v86 v87 v88 v89 v90 v91 v92 v93 v94 v95 v96 v97 v98 v99 v100 v101 v102 v103 v104 : Value), a' = { tmps := #[.agg V.val, .int .i64 b, .int .i64 n, .pointer (some ⟨w.heap.size, 0, none⟩), undef, undef, .bool false, .int .i64 p, .pointer (some ⟨w3.heap.size, 0, none⟩), .pointer (some ⟨w3.heap.size + 1, 0, none⟩), .int .i64 (n - (Cal.dby (Cal.yr n) + 1) + 1), undef, .agg V.val, .int .i64 b, .int .i64 n, .int .i64 p, u16, u17, u18, u19, u20, u21, u22, u23, .bool false, .int .i64 b, .agg #[.int .i64 (Cal.yr b), .int .i64 (Cal.mon b), .int .i64 (Cal.dom b)], .int .i64 n, .agg #[.int .i64 (Cal.yr n), .int .i64 (Cal.mon n), .int .i64 (Cal.dom n)], .int .i64 n, .pointer (some ⟨w3.heap.size + 1, 0, none⟩), .int .i64 (Cal.yr n), .int .i64 (Cal.dby (Cal.yr n) + 1), .int .i64 (n - (Cal.dby (Cal.yr n) + 1)), .int .i64 (n - (Cal.dby (Cal.yr n) + 1) + 1), v35, v36, v37, v38, v39, v40, v41, v42, v43, v44, v45, v46, v47, v48, v49, v50, v51, v52, v53, v54, v55, v56, v57, v58, v59, v60, v61, v62, v63, v64, v65, v66, v67, v68, v69, v70, v71, v72, v73, v74, v75, v76, v77, v78, v79, v80, v81, v82, v83, v84, v85, v86, v87, v88, v89, v90, v91, v92, v93, v94, v95, v96, v97, v98, v99, v100, v101, v102, v103, v104, .bool T5, u106, u107, u108, u109, u110, u111, u112, u113, u114, u115, u116, u117, u118, u119, u120, u121, u122, u123, u124, u125, u126, u127, u128, u129, u130, u131, u132, u133, u134, u135, u136, u137, u138, u139, u140, u141, u142, u143, u144, u145, u146, u147, u148, u149, u150, u151, u152, u153, u154, u155, u156, u157, u158, u159, u160, u161, u162, u163, u164, u165, u166, u167, u168, u169], defers := [] }) ?_ ?_
    · simp only [List.take_succ_cons, List.take_zero]
      rcases T4
      case true =>
        as_aux_lemma =>
        obtain rfl : T5 = true := by rw [← hT5]; rfl
        repeat (first | (go_big_quiet_want; (refine quiet_rule _ rfl rfl hx ?_); (try simp only [Act.put, List.setIfInBounds_toArray, List.set_cons_zero, List.set_cons_succ]); go_big_quiet_on) | go_big_quiet_step (first | (go_at_call 27; exact qafter (cd _ (hg.trans (by exact (After.gr _)))))))
        refine wpQuiet_nil ?_
        exact ⟨_, _, _, _, _, _, _, _, _, _, _, _, _, _, _, _, _, _, _, _, _, _, _, _, _, _, _, _, _, _, _, _, _, _, _, _, _, _, _, _, _, _, _, _, _, _, _, _, _, _, _, _, _, _, _, _, _, _, _, _, _, _, _, _, _, _, _, _, _, _, rfl⟩
      rcases Nat.eq_zero_or_pos md with h | h
      · as_aux_lemma =>
        obtain rfl : T5 = false := by rw [← hT5, HBd.out.1 h]; rfl
        subst h
        repeat (first | (go_big_quiet_want; (refine quiet_rule _ rfl rfl hx ?_); (try simp only [Act.put, List.setIfInBounds_toArray, List.set_cons_zero, List.set_cons_succ]); go_big_quiet_on) | go_big_quiet_step (first | (go_at_call 27; exact qafter (cd _ (hg.trans (by exact (After.gr _)))))))
        refine wpQuiet_nil ?_
        exact ⟨_, _, _, _, _, _, _, _, _, _, _, _, _, _, _, _, _, _, _, _, _, _, _, _, _, _, _, _, _, _, _, _, _, _, _, _, _, _, _, _, _, _, _, _, _, _, _, _, _, _, _, _, _, _, _, _, _, _, _, _, _, _, _, _, _, _, _, _, _, _, rfl⟩
      · as_aux_lemma =>
        obtain rfl : T5 = !zd := by rw [← hT5, HBd.out.2 (by omega), Bool.false_or]
        have hp : (0 : Int) < (md : Int) := by omega
        repeat (first | (go_big_quiet_want; (refine quiet_rule _ rfl rfl hx ?_); (try simp only [Act.put, List.setIfInBounds_toArray, List.set_cons_zero, List.set_cons_succ]); go_big_quiet_on) | go_big_quiet_step (first | (go_at_call 27; exact qafter (cd _ (hg.trans (by exact (After.gr _)))))))
        refine wpQuiet_nil ?_
        exact ⟨_, _, _, _, _, _, _, _, _, _, _, _, _, _, _, _, _, _, _, _, _, _, _, _, _, _, _, _, _, _, _, _, _, _, _, _, _, _, _, _, _, _, _, _, _, _, _, _, _, _, _, _, _, _, _, _, _, _, _, _, _, _, _, _, _, _, _, _, _, _, rfl⟩
    simp only [List.drop_succ_cons, List.drop_zero]
    rintro _ ⟨v35, v36, v37, v38, v39, v40, v41, v42, v43, v44, v45, v46, v47, v48, v49, v50, v51, v52, v53, v54, v55, v56, v57, v58, v59, v60, v61, v62, v63, v64, v65, v66, v67, v68, v69, v70, v71, v72, v73, v74, v75, v76, v77, v78, v79, v80, v81, v82, v83, v84, v85, v86, v87, v88, v89, v90, v91, v92, v93, v94, v95, v96, v97, v98, v99, v100, v101, v102, v103, v104, rfl⟩
    refine wpQuiet_nil ?_
    rintro _ ⟨⟨w6, hg6⟩, rfl⟩
    go_wp2
    go_meet
    case rel => exact ⟨by rw [HT.out], hg6⟩
  case rest =>
  obtain ⟨rfl, hgX⟩ := hcut
  have e0 := gr_cell hgX e0
  have e11 := gr_cell hgX e11
  have e12 := gr_cell hgX e12
  have e13 := gr_cell hgX e13
  have e14 := gr_cell hgX e14
  have e15 := gr_cell hgX e15
  have j1 := gr_cell hgX j1
  have j2 := gr_cell hgX j2
  have k1 := gr_cell hgX k1
  have k2 := gr_cell hgX k2
  have hg := hg.trans hgX
  clear HX k0 hgX c6 c5 c4 c3 cd cL cY HB6 HB5 HB4 HB3 HBd
  have HQ : Hid (q = ((!t) && (!(decide (m4 = 0) && decide (m3 = 0) && decide (md = 0)) ||
        if V.r.freq = 2 then b % 7 == n % 7 else if V.r.freq = 3 then Cal.dom b == Cal.dom n else if V.r.freq = 4 ∧ m5 ≠ 0 then b % 7 == n % 7 else if V.r.freq = 4 then Cal.dom b == Cal.dom n && (!decide (m6 = 0) || Cal.mon b == Cal.mon n) else true))) := Lib.hid (by rw [HJ.out, ← ht, Bool.not_not])
  clear HJ ht
  rcases t
  case true =>
    as_aux_lemma =>
    have HE : Hid (false = q) := Lib.hid (by rw [HQ.out]; rfl)
    go_wp2
    go_ret
    exact ⟨ret_bool HE.out, hg⟩
  by_cases h0 : m4 + m3 + md = 0
  case neg =>
    as_aux_lemma =>
    have HE : Hid (true = q) := Lib.hid (by
      rw [HQ.out]
      have : (decide (m4 = 0) && decide (m3 = 0) && decide (md = 0)) = false := by
        rw [Bool.eq_false_iff]
        intro c
        simp only [Bool.and_eq_true, decide_eq_true_eq] at c
        omega
      rw [this]; rfl)
    have hx : decide ((0 : Int) < (m4 : Int) + (m3 : Int) + (md : Int)) = true := by simp; omega
    clear HQ
    go_wp2
    go_ret
    exact ⟨ret_bool HE.out, hg⟩
  obtain rfl : m4 = 0 := by omega
  obtain rfl : m3 = 0 := by omega
  obtain rfl : md = 0 := by omega
  have HK : Hid (q = if V.r.freq = 2 then b % 7 == n % 7 else if V.r.freq = 3 then Cal.dom b == Cal.dom n else if V.r.freq = 4 ∧ m5 ≠ 0 then b % 7 == n % 7 else if V.r.freq = 4 then Cal.dom b == Cal.dom n && (!decide (m6 = 0) || Cal.mon b == Cal.mon n) else true) := Lib.hid (by simpa using HQ.out)
  clear HQ
  go_upto_region 11 with (go_at_call 28; refine (cW _ (by omega) (by omega) _).mono ?_; rintro e w' ⟨rfl, rfl⟩)
  generalize V.r.freq = f at *
  by_cases f2 : f = 2
  · as_aux_lemma =>
    subst f2
    rw [if_pos rfl] at HK
    clear e14 e15 k1 k2 j1 j2
    go_wp2
    go_ret
    exact ⟨ret_bool HK.out.symm, hg⟩
  have g2 : (f == 2) = false := beq_eq_false_iff_ne.2 f2
  rw [if_neg f2] at HK
  by_cases f3 : f = 3
  · as_aux_lemma =>
    subst f3
    rw [if_pos rfl] at HK
    clear e15 k1 j1
    go_wp2
    go_ret
    exact ⟨ret_bool HK.out.symm, hg⟩
  have g3 : (f == 3) = false := beq_eq_false_iff_ne.2 f3
  rw [if_neg f3] at HK
  by_cases f4 : f = 4
  case neg =>
    as_aux_lemma =>
    have g4 : (f == 4) = false := beq_eq_false_iff_ne.2 f4
    rw [if_neg (fun c => f4 c.1), if_neg f4] at HK
    clear e15 k1 k2 j1 j2
    go_wp2
    go_ret
    exact ⟨ret_bool HK.out.symm, hg⟩
  subst f4
  by_cases h5 : m5 = 0
  case neg =>
    as_aux_lemma =>
    rw [if_pos ⟨rfl, h5⟩] at HK
    have hm5 : (0 : Int) < (m5 : Int) := by omega
    clear e15 k1 k2 j1 j2
    go_wp2
    go_ret
    exact ⟨ret_bool HK.out.symm, hg⟩
  subst h5
  rw [if_neg (fun c => c.2 rfl), if_pos rfl] at HK
  cases hdm : (Cal.dom b == Cal.dom n)
  · as_aux_lemma =>
    rw [hdm] at HK
    have HE : Hid (q = false) := Lib.hid (by simpa using HK.out)
    clear HK
    go_wp2
    go_ret
    exact ⟨ret_bool HE.out.symm, hg⟩
  rw [hdm] at HK
  by_cases h6 : m6 = 0
  · as_aux_lemma =>
    subst h6
    have HE : Hid (q = (Cal.mon b == Cal.mon n)) := Lib.hid (by simpa using HK.out)
    clear HK
    go_wp2
    go_ret
    exact ⟨ret_bool HE.out.symm, hg⟩
  · as_aux_lemma =>
    have HE : Hid (q = true) := Lib.hid (by simpa [h6] using HK.out)
    have hm6 : (0 : Int) < (m6 : Int) := by omega
    clear HK
    go_wp2
    go_ret
    exact ⟨ret_bool HE.out.symm, hg⟩
end Go.Proofs.YtfdaeddgicngoaaGreat
