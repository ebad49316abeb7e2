/- The law RecurEqual: it returns true (written by mkwreq.py). -/
import Derived.Test.YtleeklcpbflfhaaGreatDoorZL
import Derived.Test.YtleeklcpbflfhaaGreatDoorZK
import Derived.Test.YtleeklcpbflfhaaGreatDoorZRcLoad
namespace Go.Proofs.YtleeklcpbflfhaaGreatDoor
open Go.RowKit

set_option maxRecDepth 100000 in
set_option maxHeartbeats 4000000 in
theorem requallaw_any (V V2 : Rm.Rv) (w : World) (hT : TbR w) (hM : RuM w w.heap.size V) (hM2 : RuM w w.heap.size V2) (hd : V.day.n ≤ 140737488355328) (hn : ∀ i, i < 8 → (V.sl i).n ≤ 140737488355328) (hd2 : V2.day.n ≤ 140737488355328) (hn2 : ∀ i, i < 8 → (V2.sl i).n ≤ 140737488355328) :
    Calls Tryz.prog 6 #[.agg V.val, .agg V2.val] w fun e w' => e = .returned (.bool true) ∧ Gr w w' := by
  have hgA : Gr w (w.alloc (.cells V.val 27)) := (Gr.refl w).allocO _
  have hgB : Gr (w.alloc (.cells V.val 27)) ((w.alloc (.cells V.val 27)).alloc (.cells V2.val 27)) := (Gr.refl _).allocO _
  have hsz : (w.alloc (.cells V.val 27)).heap.size = w.heap.size + 1 := by simp
  have hB2 := (RBx.now w V 27).gr hgB
  have hB3 : RBx ((w.alloc (.cells V.val 27)).alloc (.cells V2.val 27)) (w.heap.size + 1) V2 := by
    rw [← hsz]
    exact RBx.now _ V2 27
  have cA := fun w' hT => awake_any w' hT
  have cF1 := fun w' => few_any V w' hd hn
  have cF2 := fun w' => few_any V2 w' hd2 hn2
  have cL := fun w' => reflists_any V w'
  obtain ⟨q1, hq1⟩ : ∃ q1, decide (Rm.sumN V 8 ≤ 500) = q1 := ⟨_, rfl⟩
  obtain ⟨q2, hq2⟩ : ∃ q2, decide (Rm.sumN V2 8 ≤ 500) = q2 := ⟨_, rfl⟩
  rw [hq1] at cF1
  rw [hq2] at cF2
  clear hq1 hq2
  have hgw := hgA.trans hgB
  have hTW := hT.gr hgw
  have HM := Lib.hid hM
  have HM2 := Lib.hid hM2
  have HN := Lib.hid hn
  have HD := Lib.hid hd
  have HB2 := Lib.hid hB2
  have HB3 := Lib.hid hB3
  clear hM hM2 hn hd hn2 hd2 hgA hgB hsz hB2 hB3 hT
  go_enter Tryz.func6, Tryz.ntmps6
  go_upto_region 1 with fail
  generalize (w.alloc (.cells V.val 27)).alloc (.cells V2.val 27) = W at *
  go_wp2_with fail
  refine (cA _ hTW).mono ?_
  rintro e w1 ⟨rfl, hg1⟩
  have hT1 := hTW.gr hg1
  have hb := HB2.out.gr hg1
  go_wp2_with (first | (refine wpList_load_rule rfl _ rfl rfl (by assumption) ?_) | (refine wpList_load_ruleg (by rfl) _ rfl rfl (by assumption) ?_))
  refine (cF1 _).mono ?_
  rintro e w2 ⟨rfl, hg2⟩
  have hT2 := hT1.gr hg2
  clear hb
  rcases q1
  · as_aux_lemma =>
    go_wp2_with fail
    refine (cA _ hT2).mono ?_
    rintro e w3 ⟨rfl, hg3⟩
    go_wp2
    go_ret
    exact ⟨rfl, ((hgw.trans hg1).trans hg2).trans hg3⟩
  have hb := HB3.out.gr (hg1.trans hg2)
  go_wp2_with (first | (refine wpList_load_rule rfl _ rfl rfl (by assumption) ?_) | (refine wpList_load_ruleg (by rfl) _ rfl rfl (by assumption) ?_))
  refine (cF2 _).mono ?_
  rintro e w3 ⟨rfl, hg3⟩
  have hT3 := hT2.gr hg3
  clear hb
  rcases q2
  · as_aux_lemma =>
    go_wp2_with fail
    refine (cA _ hT3).mono ?_
    rintro e w4 ⟨rfl, hg4⟩
    go_wp2
    go_ret
    exact ⟨rfl, (((hgw.trans hg1).trans hg2).trans hg3).trans hg4⟩
  have hgW := (hg1.trans hg2).trans hg3
  have hb := HB2.out.gr hgW
  go_wp2_with (first | (refine wpList_load_rule rfl _ rfl rfl (by assumption) ?_) | (refine wpList_load_ruleg (by rfl) _ rfl rfl (by assumption) ?_))
  refine (cL _).mono ?_
  rintro e w4 ⟨rfl, hg4⟩
  clear hb
  go_upto_region 5 with (refine wpList_store_row rfl 37 (.tmp 6) (.tmp 22) rfl w4.heap.size (Rm.arr8 V) rfl rfl 37 _ (heap_alloc_new _ _) info_arr8 rfl (arr8_one V) ?_; rw [World.setRow_alloc_new])
  have hg5 : Gr w4 (w4.alloc (.cells (Rm.arr8 V) 37)) := (Gr.refl _).allocO _
  have hcA := fun k hk => arr8_cell (k := k) (heap_alloc_new w4 (.cells (Rm.arr8 V) 37)) hk
  have hgX := (hgW.trans hg4).trans hg5
  have HC := Lib.hid hcA
  clear hcA hg1 hg2 hg3 hg4 hg5 hT1 hT2 hT3 hTW hgW cA cF1 cF2 cL
  generalize w4.alloc (.cells (Rm.arr8 V) 37) = X at *
  go_wp2
  go_loopg [5, 23] 8 (fun g v5 v wx => ∃ k : Nat, v = .int .i64 (k : Int) ∧ v5 = .int .i64 (Rm.nz V.r k : Int) ∧ k + g = 8 ∧ wx = X)
  case atStart => exact ⟨0, rfl, rfl, rfl, rfl⟩
  case round =>
    obtain ⟨k, rfl, rfl, hkg, rfl⟩ := hrel
    have HG := Lib.hid hkg
    clear hkg
    have hnz := Rm.nz_le V.r k
    by_cases hk : k < 8
    · have hkn : (k : Int) < 8 := by omega
      have hc := HC.out k hk
      have hl := (HM.out.l k hk).1
      have HE := Lib.hid (show Rm.nz V.r (k + 1) = Rm.nz V.r k + if (V.r.ls k).isEmpty then 0 else 1 from rfl)
      generalize (V.sl k).A = A at *
      generalize (V.sl k).n = n at *
      generalize (V.sl k).c = c at *
      generalize Rm.nz V.r k = z at *
      by_cases he : n = 0
      · as_aux_lemma =>
        subst he
        have hem : (V.r.ls k).isEmpty = true := by rw [List.isEmpty_iff]; exact List.eq_nil_of_length_eq_zero hl
        have HZ : Hid (Rm.nz V.r (k + 1) = z) := Lib.hid (by rw [HE.out, hem]; rfl)
        clear hl hem
        go_wp2
        go_roundg (8 - (k + 1))
        case measure => have := HG.out; omega
        case rel => exact ⟨k + 1, by go_num, by rw [HZ.out], by omega, rfl⟩
      · as_aux_lemma =>
        have hem : (V.r.ls k).isEmpty = false := by
          cases h : V.r.ls k with
          | nil => rw [h] at hl; exact absurd hl.symm he
          | cons _ _ => rfl
        have HZ : Hid (Rm.nz V.r (k + 1) = z + 1) := Lib.hid (by rw [HE.out, hem]; rfl)
        have hn0 : (0 : Int) < (n : Int) := by omega
        clear hl hem he
        go_wp2
        go_roundg (8 - (k + 1))
        case measure => have := HG.out; omega
        case rel => exact ⟨k + 1, by go_num, by rw [HZ.out]; go_num, by omega, rfl⟩
    · obtain rfl : k = 8 := by have := HG.out; omega
      have hx := HB2.out.gr hgX
      have hy := HB3.out.gr hgX
      have hc11 := hx.c11
      have HE := Lib.hid (show Rm.lsN V.r = Rm.nz V.r 8 + if V.r.day.isEmpty then 0 else 1 from rfl)
      have HGX := Lib.hid (hgw.trans hgX)
      obtain ⟨qf, hqf⟩ : ∃ qf : Rm.Rv → Bool, ∀ X : Rm.Rv, qf X = true ↔ V.r = X.r := ⟨fun X => @decide (V.r = X.r) (Classical.propDecidable _), fun X => @decide_eq_true_iff (V.r = X.r) (Classical.propDecidable _)⟩
      have cE := fun (X : Rm.Rv) (hX : X = V ∨ X = V2) w' (h : Gr wr w') => requal_any V X w' (HM.out.gr (HGX.out.trans h)) (by rcases hX with rfl | rfl; exact HM.out.gr (HGX.out.trans h); exact HM2.out.gr (HGX.out.trans h)) HD.out HN.out (qf X) (hqf X)
      have cS := fun w' (h : Gr wr w') => rsame_any V V2 w' (HM.out.gr (HGX.out.trans h)) (HM2.out.gr (HGX.out.trans h)) HD.out HN.out (qf V2) (hqf V2)
      have cN := fun w' (h : Gr wr w') => lists_any V w' (HM.out.gr (HGX.out.trans h))
      have hqV : qf V = true := (hqf V).2 rfl
      have hlD := HM.out.d.1
      generalize Rm.nz V.r 8 = z at *
      generalize hNN : Rm.lsN V.r = NN at *
      have HX := Lib.hid (And.intro hx hy)
      clear hx hy hqf hgX hgw HC HG
      go_upto_if 37 with fail
      go_cut [5] from 34 (fun v wx => v = .int .i64 (NN : Int) ∧ wr = wx)
      case first =>
        clear cE cS cN HX hqV
        by_cases he : V.day.n = 0
        · as_aux_lemma =>
          have hem : V.r.day.isEmpty = true := by rw [List.isEmpty_iff]; exact List.eq_nil_of_length_eq_zero (hlD.trans he)
          have hz : NN = z := by have h := HE.out; rw [hem] at h; simpa using h
          have HZ := Lib.hid hz
          have hn0 : ¬ (0 : Int) < (V.day.n : Int) := by omega
          clear hem he hNN HE hlD hz
          go_wp2
          go_meet
          case rel => exact ⟨by rw [HZ.out], rfl⟩
        · as_aux_lemma =>
          have hem : V.r.day.isEmpty = false := by
            cases h : V.r.day with
            | nil => rw [h] at hlD; exact absurd hlD.symm he
            | cons _ _ => rfl
          have hz : NN = z + 1 := by have h := HE.out; rw [hem] at h; simpa using h
          have HZ := Lib.hid hz
          have hn0 : (0 : Int) < (V.day.n : Int) := by omega
          clear hem he hNN HE hlD hz
          go_wp2
          go_meet
          case rel => exact ⟨by rw [HZ.out]; go_num, rfl⟩
      case rest =>
      obtain ⟨rfl, rfl⟩ := hcut
      clear hNN HE hlD hc11
      as_aux_lemma =>
        go_wp2_with fail
        have hx := after_rule HX.out.1
        have hy := after_rule HX.out.2
        have hqc : ∃ qc, qf V2 = qc := ⟨_, rfl⟩
        obtain ⟨qc, hqc⟩ := hqc
        rw [hqc] at cS
        rcases qc
        all_goals
          refine wp_region_after (by kernel_rfl) (by kernel_rfl) ?_
          repeat (first | (go_big_quiet_want; (first | refine quiet_rule _ rfl rfl hx ?_ | refine quiet_rule _ rfl rfl hy ?_); (try simp only [Act.put, List.setIfInBounds_toArray, List.set_cons_zero, List.set_cons_succ]); go_big_quiet_on) | go_big_quiet_step (first | (go_at_call 15; exact qafter (cE _ (by first | exact .inl rfl | exact .inr rfl) _ (by exact (After.gr _)))) | (go_at_call 14; exact qafter (cS _ (by exact (After.gr _)))) | (go_at_call 17; exact qafter (cN _ (by exact (After.gr _))))))
          refine wpQuiet_nil ?_
          rintro _ ⟨⟨w6, hg6⟩, rfl⟩
          go_wp2
          go_ret
          exact ⟨rfl, HGX.out.trans hg6⟩
end Go.Proofs.YtleeklcpbflfhaaGreatDoor
