/- What the reference's Formed returns (written by mkrform.py). -/
import Derived.Test.YtmbmkldcedkbmaaGreatZX
import Derived.Test.YtmbmkldcedkbmaaGreatZRfLeaf
import Derived.Test.YtmbmkldcedkbmaaGreatZRcFew
import Derived.Test.YtmbmkldcedkbmaaGreatZRcLoad
import Derived.Test.YtmbmkldcedkbmaaGreatZRcEqual
import Derived.Test.YtmbmkldcedkbmaaGreatZI
import Derived.Deep.Cut
import Derived.Deep.CutRange
namespace Go.Proofs.YtmbmkldcedkbmaaGreat
open Go.RowKit

set_option maxRecDepth 100000 in
set_option maxHeartbeats 16000000 in
theorem rformed_any (V : Rm.Rv) (w : World) (hM : RuM w w.heap.size V) (hz : V.z.size ≤ 9223372036854775807) (hd : V.day.n ≤ 140737488355328) (hn : ∀ i, i < 8 → (V.sl i).n ≤ 140737488355328) :
    Calls Tryz.prog 10 #[.agg V.val] w fun e w' => e = .returned (.bool (Rm.fm V.r)) ∧ Gr w w' := by
  have cL := fun w' => reflists_any V w'
  have cT := fun w' => rrt_any V.r.uk V.r.ua V.z w' hz
  have hg0 : Gr w (w.alloc (.cells V.val 27)) := (Gr.refl w).allocO _
  have hbx := RBx.now w V 27
  have HM := Lib.hid hM
  have HN := Lib.hid hn
  have HF := Lib.hid (Rm.fm_iff V.r)
  have HX := Lib.hid (Rm.fmX_iff V (fun i hi => (hM.l i hi).1) hM.d.1)
  have HFD := Lib.hid (show Rm.fineD V.r.day = true → V.day.n ≤ 40 from fun h => by have := (Rm.fineD_iff.1 h).1; rw [hM.d.1] at this; exact this)
  have HU := Lib.hid (show Rm.fmU V.r = if V.r.has = true then decide (V.r.cnt = 0) && Va.rt V.r.uk V.r.ua V.z.data.toList && V.r.uk != 3 else decide (V.r.uk = 0) && decide (V.r.ua = 0) && V.z.data.toList.isEmpty by rw [hM.z]; rfl)
  have HB := Lib.hid hbx
  obtain ⟨q, hq⟩ : ∃ q, Rm.fm V.r = q := ⟨_, rfl⟩
  rw [hq] at HF ⊢
  clear hq hM hz hn
  go_enter Tryz.func10, Tryz.ntmps10
  go_upto_region 1 with fail
  generalize Value.agg V.val = vv
  generalize w.alloc (.cells V.val 27) = W at *
  obtain ⟨e0, e1, e2, e3, e4, e5, e6, e7, e8, e9, e10, e11, e12, e13, e14, e15, e16⟩ := hbx
  clear e8 e9 e10 e12 e13 e14 e15 e16
  obtain ⟨b1, HB1⟩ : ∃ b1 : Bool, Hid (b1 = false ↔ (1 ≤ V.r.freq ∧ V.r.freq ≤ 4 ∧ 1 ≤ V.r.ivl ∧ V.r.ivl ≤ 1000 ∧ 0 ≤ V.r.cnt ∧ V.r.cnt ≤ 1000 ∧ 0 ≤ V.r.st ∧ V.r.st ≤ 6 ∧ V.day.n ≤ 40)) := by
    by_cases h : (1 ≤ V.r.freq ∧ V.r.freq ≤ 4 ∧ 1 ≤ V.r.ivl ∧ V.r.ivl ≤ 1000 ∧ 0 ≤ V.r.cnt ∧ V.r.cnt ≤ 1000 ∧ 0 ≤ V.r.st ∧ V.r.st ≤ 6 ∧ V.day.n ≤ 40)
    · exact ⟨false, Lib.hid ⟨fun _ => h, fun _ => rfl⟩⟩
    · exact ⟨true, Lib.hid ⟨fun e => (by cases e), fun e => absurd e h⟩⟩
  go_cut [52] from 9 (fun v wx => v = .bool b1 ∧ W = wx)
  case first =>
    as_aux_lemma =>
      generalize V.r.freq = a0 at *
      generalize V.r.ivl = a1 at *
      generalize V.r.cnt = a2 at *
      generalize V.r.st = a7 at *
      generalize V.day.n = nd at *
      generalize V.day.A = A11 at *
      generalize V.day.c = c11 at *
      clear e3 e4 e5 e6 cT cL HM HN HF HX HFD HU HB
      by_cases h0 : 1 ≤ a0
      · skip
        by_cases h1 : a0 ≤ 4
        · skip
          by_cases h2 : 1 ≤ a1
          · skip
            by_cases h3 : a1 ≤ 1000
            · skip
              by_cases h4 : 0 ≤ a2
              · skip
                by_cases h5 : a2 ≤ 1000
                · skip
                  by_cases h6 : 0 ≤ a7
                  · skip
                    by_cases h7 : a7 ≤ 6
                    · skip
                      by_cases h8 : nd ≤ 40
                      · skip
                        have HE : Hid (b1 = false) := Lib.hid (HB1.out.2 ⟨h0, h1, h2, h3, h4, h5, h6, h7, h8⟩)
                        clear HB1
                        go_wp2
                        go_meet
                        case rel => exact ⟨by rw [HE.out]; refine congrArg Value.bool ?_; simp only [Bool.or_eq_false_iff, decide_eq_false_iff_not]; omega, rfl⟩
                      · have HE : Hid (b1 = true) := Lib.hid (by cases hc : b1; exact absurd (HB1.out.1 hc).2.2.2.2.2.2.2.2 h8; rfl)
                        clear HB1
                        go_wp2
                        go_meet
                        case rel => exact ⟨by rw [HE.out]; refine congrArg Value.bool ?_; simp only [Bool.or_eq_true, decide_eq_true_eq]; omega, rfl⟩
                    · have HE : Hid (b1 = true) := Lib.hid (by cases hc : b1; exact absurd (HB1.out.1 hc).2.2.2.2.2.2.2.1 h7; rfl)
                      clear HB1
                      go_wp2
                      go_meet
                      case rel => exact ⟨by rw [HE.out], rfl⟩
                  · have HE : Hid (b1 = true) := Lib.hid (by cases hc : b1; exact absurd (HB1.out.1 hc).2.2.2.2.2.2.1 h6; rfl)
                    clear HB1
                    go_wp2
                    go_meet
                    case rel => exact ⟨by rw [HE.out], rfl⟩
                · have HE : Hid (b1 = true) := Lib.hid (by cases hc : b1; exact absurd (HB1.out.1 hc).2.2.2.2.2.1 h5; rfl)
                  clear HB1
                  go_wp2
                  go_meet
                  case rel => exact ⟨by rw [HE.out], rfl⟩
              · have HE : Hid (b1 = true) := Lib.hid (by cases hc : b1; exact absurd (HB1.out.1 hc).2.2.2.2.1 h4; rfl)
                clear HB1
                go_wp2
                go_meet
                case rel => exact ⟨by rw [HE.out], rfl⟩
            · have HE : Hid (b1 = true) := Lib.hid (by cases hc : b1; exact absurd (HB1.out.1 hc).2.2.2.1 h3; rfl)
              clear HB1
              go_wp2
              go_meet
              case rel => exact ⟨by rw [HE.out], rfl⟩
          · have HE : Hid (b1 = true) := Lib.hid (by cases hc : b1; exact absurd (HB1.out.1 hc).2.2.1 h2; rfl)
            clear HB1
            go_wp2
            go_meet
            case rel => exact ⟨by rw [HE.out], rfl⟩
        · have HE : Hid (b1 = true) := Lib.hid (by cases hc : b1; exact absurd (HB1.out.1 hc).2.1 h1; rfl)
          clear HB1
          go_wp2
          go_meet
          case rel => exact ⟨by rw [HE.out], rfl⟩
      · have HE : Hid (b1 = true) := Lib.hid (by cases hc : b1; exact absurd (HB1.out.1 hc).1 h0; rfl)
        clear HB1
        go_wp2
        go_meet
        case rel => exact ⟨by rw [HE.out], rfl⟩
  case rest =>
  obtain ⟨rfl, rfl⟩ := hcut
  rcases b1
  rotate_left
  · as_aux_lemma =>
    have HE : Hid (q = false) := Lib.hid (by
      cases hc : q
      · rfl
      · have h1 := HF.out.1 hc
        have h2 := HB1.out.2 ⟨h1.1.1, h1.1.2.1, h1.1.2.2.1, h1.1.2.2.2.1, h1.1.2.2.2.2.1, h1.1.2.2.2.2.2.1, h1.1.2.2.2.2.2.2.1, h1.1.2.2.2.2.2.2.2, HFD.out h1.2.2.2.1⟩
        cases h2)
    go_wp2
    go_ret
    exact ⟨ret_bool HE.out.symm, hg0⟩
  have hC := HB1.out.1 rfl
  have HC := Lib.hid hC
  have hd40 : V.day.n ≤ 40 := hC.2.2.2.2.2.2.2.2
  clear hC HB1
  obtain ⟨b2, HB2⟩ : ∃ b2 : Bool, Hid (b2 = false ↔ Rm.fmU V.r = true) := by
    cases h : Rm.fmU V.r
    · exact ⟨true, Lib.hid ⟨fun e => (by cases e), fun e => (by cases e)⟩⟩
    · exact ⟨false, Lib.hid ⟨fun _ => rfl, fun _ => rfl⟩⟩
  go_upto_region 3 with fail
  go_cut [82] from 53 (fun v wx => v = .bool b2 ∧ Gr W wx)
  case first =>
    as_aux_lemma =>
    rw [HU.out] at HB2
    clear HU cL HM HN HF HX HFD HB HC e0 e1 e7 e11
    generalize V.r.has = a6 at *
    generalize V.r.cnt = a2 at *
    generalize V.r.uk = a3 at *
    generalize V.r.ua = a4 at *
    generalize hrt : Va.rt a3 a4 V.z.data.toList = rt at *
    clear hrt
    have HZ := Lib.hid (show V.z.data.toList.isEmpty = (V.z.toList == []) by rw [Lib.toList_data]; cases V.z.data.toList <;> rfl)
    generalize V.z.data.toList.isEmpty = zb at *
    generalize V.z = z at *
    rcases a6
    · rw [if_neg (by decide)] at HB2
      by_cases h3 : a3 = 0
      · subst h3
        by_cases h4 : a4 = 0
        · subst h4
          by_cases h5 : z.toList = []
          · have hz0 : z = ⟨#[]⟩ := z_eq2 (by rw [Lib.toList_data] at h5; rw [h5])
            have hze : zb = true := by rw [HZ.out, h5]; rfl
            subst hze
            have HE : Hid (b2 = false) := Lib.hid (HB2.out.2 rfl)
            subst hz0
            clear HB2 HZ h5
            go_wp2
            go_meet
            case rel => exact ⟨by rw [HE.out], Gr.refl _⟩
          · have hze : zb = false := by rw [HZ.out]; exact beq_eq_false_iff_ne.2 h5
            subst hze
            have HE : Hid (b2 = true) := Lib.hid (by cases hc : b2; exact absurd (HB2.out.1 hc) (by decide); rfl)
            have hz1 : (z.toList == []) = false := beq_eq_false_iff_ne.2 h5
            clear HB2 HZ
            go_wp2
            go_meet
            case rel => exact ⟨by rw [HE.out], Gr.refl _⟩
        · have HE : Hid (b2 = true) := Lib.hid (by cases hc : b2; exact absurd (HB2.out.1 hc) (by simp [h4]); rfl)
          clear HB2 HZ
          go_wp2
          go_meet
          case rel => exact ⟨by rw [HE.out], Gr.refl _⟩
      · have HE : Hid (b2 = true) := Lib.hid (by cases hc : b2; exact absurd (HB2.out.1 hc) (by simp [h3]); rfl)
        clear HB2 HZ
        go_wp2
        go_meet
        case rel => exact ⟨by rw [HE.out], Gr.refl _⟩
    · rw [if_pos rfl] at HB2
      clear HZ
      by_cases h2 : a2 = 0
      · subst h2
        rcases rt
        · have HE : Hid (b2 = true) := Lib.hid (by cases hc : b2; exact absurd (HB2.out.1 hc) (by simp); rfl)
          clear HB2
          go_wp2_with (go_at_call 24; refine (cT _).mono ?_; rintro e w1 ⟨rfl, hg1⟩)
          go_meet
          case rel => exact ⟨by rw [HE.out], hg1⟩
        · by_cases h3 : a3 = 3
          · subst h3
            have HE : Hid (b2 = true) := Lib.hid (by cases hc : b2; exact absurd (HB2.out.1 hc) (by simp); rfl)
            clear HB2
            go_wp2_with (go_at_call 24; refine (cT _).mono ?_; rintro e w1 ⟨rfl, hg1⟩; have e3 := gr_cell hg1 e3)
            go_meet
            case rel => exact ⟨by rw [HE.out], hg1⟩
          · have HE : Hid (b2 = false) := Lib.hid (HB2.out.2 (by simp [h3]))
            have hb3 : (a3 == 3) = false := beq_eq_false_iff_ne.2 h3
            clear HB2
            go_wp2_with (go_at_call 24; refine (cT _).mono ?_; rintro e w1 ⟨rfl, hg1⟩; have e3 := gr_cell hg1 e3; have e6 := gr_cell hg1 e6)
            go_meet
            case rel => exact ⟨by rw [HE.out], hg1⟩
      · have h2b : (a2 != 0) = true := by simpa using h2
        have HE : Hid (b2 = true) := Lib.hid (by cases hc : b2; exact absurd (HB2.out.1 hc) (by simp [h2]); rfl)
        clear HB2
        go_wp2
        go_meet
        case rel => exact ⟨by rw [HE.out], Gr.refl _⟩
  case rest =>
  obtain ⟨rfl, hgW⟩ := hcut
  rcases b2
  rotate_left
  · as_aux_lemma =>
    have HE : Hid (q = false) := Lib.hid (by
      cases hc : q
      · rfl
      · have h2 := HB2.out.2 (HF.out.1 hc).2.1
        cases h2)
    go_wp2
    go_ret
    exact ⟨ret_bool HE.out.symm, hg0.trans hgW⟩
  have HUT := Lib.hid (HB2.out.1 rfl)
  clear HB2 HU cT e0 e1 e2 e3 e4 e5 e6 e7 e11
  have hb := HB.out.gr hgW

  go_upto_region 6 with (first | (refine wpList_load_rule rfl _ rfl rfl hb ?_) | (go_at_call 18; refine (cL _).mono ?_; rintro e w1 ⟨rfl, hg1⟩) | (refine wpList_store_row rfl 47 (.tmp 3) (.tmp 84) rfl w1.heap.size (Rm.arr8 V) rfl rfl 47 _ (heap_alloc_new _ _) info_arr8 rfl (arr8_one V) ?_; rw [World.setRow_alloc_new]))
  have hg2 : Gr w1 (w1.alloc (.cells (Rm.arr8 V) 47)) := (Gr.refl _).allocO _
  have hcA := fun k hk => arr8_cell (k := k) (heap_alloc_new w1 (.cells (Rm.arr8 V) 47)) hk
  have HC8 := Lib.hid hcA
  have hgX := ((hg0.trans hgW).trans hg1).trans hg2
  have hbX := (hb.gr hg1).gr hg2
  have c11 := hbX.c11
  generalize Value.agg (Rm.arr8 V) = va
  generalize Value.agg V.val = vb
  clear hcA hg1 hg2 hg0 hgW hb cL HB
  generalize w1.alloc (.cells (Rm.arr8 V) 47) = X at *
  have HBX := Lib.hid hbX
  clear hbX
  go_wp2
  go_loopg [4, 88] 8 (fun g v4 v wx => ∃ k : Nat, v = .int .i64 (k : Int) ∧ v4 = .int .i64 (Rm.oth V k : Int) ∧ k + g = 8 ∧ Gr X wx ∧ Hid (∀ i, i < k → Rm.fine i (V.r.ls i) = true))
  case atStart => exact ⟨0, rfl, rfl, rfl, Gr.refl _, Lib.hid (fun i h => absurd h (by omega))⟩
  case round =>
    obtain ⟨k, rfl, rfl, hkg, hg, HFi⟩ := hrel
    have HG := Lib.hid hkg
    clear hkg
    generalize wr = wo at *
    by_cases hk : k < 8
    · have hkn : (k : Int) < 8 := by omega
      have hc := gr_cell hg (HC8.out k hk)
      have hN := HM.out.l k hk
      have hnk := HN.out k hk
      have HK := Lib.hid hk
      have HO := Lib.hid (show Rm.oth V (k + 1) = Rm.oth V k + if k < 7 then (V.sl k).n else 0 from rfl)
      have hgw := hgX.trans hg
      clear c11
      generalize (V.sl k).A = A at *
      generalize (V.sl k).n = n at *
      generalize (V.sl k).c = c at *
      have HLL := Lib.hid hN.1
      generalize hls : V.r.ls k = l at *
      by_cases h40 : n ≤ 40
      rotate_left
      · as_aux_lemma =>
        have HE : Hid (q = false) := Lib.hid (by
          cases hc : q
          · rfl
          · have h1 := (HF.out.1 hc).2.2.1 k hk
            rw [hls] at h1
            have h2 := (Rm.fine_iff.1 h1).1
            rw [HLL.out] at h2
            exact absurd h2 h40)
        have hz : (40 : Int) < (n : Int) := by omega
        generalize Rm.oth V k = z at *
        clear hN
        go_wp2
        go_ret
        exact ⟨ret_bool HE.out.symm, hgw⟩
      have hob : Rm.oth V k ≤ 360 := by
        have := Rm.oth_le V hd40 k (by omega) (fun i hi => by
          have h1 := Rm.fine_len (HFi.out i hi)
          rw [(HM.out.l i (by omega)).1] at h1
          exact h1)
        omega
      generalize Rm.oth V k = z at *
      go_wp2
      go_loopg [100] n (fun g v wx => ∃ j : Nat, v = .int .i64 (j : Int) ∧ j + g = n ∧ Gr wo wx ∧ Hid (∀ (t : Nat) a, t < j → l[t]? = some a → Rm.may k a = true) ∧ Hid (∀ (t : Nat) a b, t + 1 < j → l[t]? = some a → l[t + 1]? = some b → a < b))
      case atStart => exact ⟨0, rfl, by omega, Gr.refl _, Lib.hid (fun t a h => absurd h (by omega)), Lib.hid (fun t a b h => absurd h (by omega))⟩
      case round =>
        obtain ⟨j, rfl, hjg, hgi, H1, H2⟩ := hrel
        have HJ := Lib.hid hjg
        clear hjg
        have hgwi := hgw.trans hgi
        by_cases hj : j < n
        · obtain ⟨ad, hj', rfl, hbl, hcj⟩ := hN.at_ hj
          have d0 := gr_cell hgwi hcj
          have ds := gr_cell hgi hc
          have hjn : (j : Int) < (n : Int) := by omega
          have HXj := Lib.hid (List.getElem?_eq_getElem hj')
          have cM := fun w' => (may_any k hk l[j] w').mono (fun e w'' h => (⟨h.1, by rw [← h.2]; exact Gr.refl _⟩ : e = .returned (.bool (Rm.may k l[j])) ∧ Gr w' w''))
          have us := after_cell ds
          have u0 := after_cell d0
          rcases hmay : Rm.may k l[j]
          · as_aux_lemma =>
            rw [hmay] at cM
            have HE : Hid (q = false) := Lib.hid (by
              cases hc : q
              · rfl
              · have h1 := (HF.out.1 hc).2.2.1 k hk
                rw [hls] at h1
                have h2 := (Rm.fine_iff.1 h1).2.1 l[j] (List.getElem_mem hj')
                rw [hmay] at h2
                cases h2)
            clear hmay hN hcj hc d0 ds
            generalize l[j] = x at *
            go_wp2_with fail
            refine wp_region_after (by kernel_rfl) (by kernel_rfl) ?_
            repeat (go_big_quiet_step (first | (go_at_call 25; exact qafter (cM _))))
            refine wpQuiet_nil ?_
            rintro _ ⟨⟨w6, hg6⟩, rfl⟩
            go_wp2
            go_ret
            exact ⟨ret_bool HE.out.symm, hgwi.trans hg6⟩
          rw [hmay] at cM
          have HMA := Lib.hid hmay
          clear hmay
          by_cases h0 : j = 0
          · as_aux_lemma =>
            subst h0
            have u0 : ∀ u : After wr, u.wd.cell? ad = some (.int .i64 l[0]) := u0
            clear hN hcj hc d0 ds
            have HR := Lib.hid (show ∀ (t : Nat) a, t < 0 + 1 → l[t]? = some a → Rm.may k a = true from fun t a ht e => by
              obtain rfl : t = 0 := by omega
              rw [HXj.out] at e
              cases e
              exact HMA.out)
            generalize l[0] = x at *
            go_wp2_with fail
            refine wp_region_after (by kernel_rfl) (by kernel_rfl) ?_
            repeat (go_big_quiet_step (first | (go_at_call 25; exact qafter (cM _))))
            refine wpQuiet_nil ?_
            rintro _ ⟨⟨w6, hg6⟩, rfl⟩
            go_wp2
            go_roundg (n - (0 + 1))
            case measure => have := HJ.out; omega
            case rel => exact ⟨1, by go_num, by omega, hgi.trans hg6, HR, Lib.hid (fun t a b h => absurd h (by omega))⟩
          obtain ⟨m, rfl⟩ : ∃ m, j = m + 1 := ⟨j - 1, by omega⟩
          obtain ⟨ad2, hm', e2, _, hcm⟩ := hN.at_ (k := m) (by omega)
          obtain rfl := Option.some.inj e2
          have um := after_cell (gr_cell hgwi hcm)
          have d0' : wr.cell? ⟨ad.block, ad.off + (m + 1), none⟩ = some (.int .i64 l[m + 1]) := by have h := d0; unfold Addr.add at h; simpa using h
          have u0' := after_cell d0'
          have HY := Lib.hid (List.getElem?_eq_getElem hm')
          have hj0 : (0 : Int) < ((m : Int) + 1) := by omega
          have hmn : (m : Int) < (n : Int) := by omega
          have hjn : (m : Int) + 1 < (n : Int) := by omega
          by_cases hlt : l[m] < l[m + 1]
          · as_aux_lemma =>
            have HR1 := Lib.hid (show ∀ (t : Nat) a, t < m + 1 + 1 → l[t]? = some a → Rm.may k a = true from fun t a ht e => by
              by_cases h : t < m + 1
              · exact H1.out t a h e
              · obtain rfl : t = m + 1 := by omega
                rw [HXj.out] at e
                cases e
                exact HMA.out)
            have HR2 := Lib.hid (show ∀ (t : Nat) a b, t + 1 < m + 1 + 1 → l[t]? = some a → l[t + 1]? = some b → a < b from fun t a b ht ea eb => by
              by_cases h : t + 1 < m + 1
              · exact H2.out t a b h ea eb
              · obtain rfl : t = m := by omega
                rw [HY.out] at ea
                rw [HXj.out] at eb
                cases ea
                cases eb
                exact hlt)
            clear hN hcj hc d0 d0' ds hcm h0
            generalize l[m + 1] = x at *
            generalize l[m] = y at *
            go_wp2_with fail
            refine wp_region_after (by kernel_rfl) (by kernel_rfl) ?_
            repeat (go_big_quiet_step (first | (go_at_call 25; exact qafter (cM _))))
            refine wpQuiet_nil ?_
            rintro _ ⟨⟨w6, hg6⟩, rfl⟩
            go_wp2
            go_roundg (n - (m + 1 + 1))
            case measure => have := HJ.out; omega
            case rel => exact ⟨m + 1 + 1, by go_num, by omega, hgi.trans hg6, HR1, HR2⟩
          · as_aux_lemma =>
            have HE : Hid (q = false) := Lib.hid (by
              cases hc : q
              · rfl
              · have h1 := (HF.out.1 hc).2.2.1 k hk
                rw [hls] at h1
                have h2 := (Rm.rise_iff _).1 (Rm.fine_iff.1 h1).2.2 m _ _ HY.out HXj.out
                exact absurd h2 hlt)
            have hge : l[m + 1] ≤ l[m] := by omega
            clear hN hcj hc d0 d0' ds hcm h0 hlt
            generalize l[m + 1] = x at *
            generalize l[m] = y at *
            go_wp2_with fail
            refine wp_region_after (by kernel_rfl) (by kernel_rfl) ?_
            repeat (go_big_quiet_step (first | (go_at_call 25; exact qafter (cM _))))
            refine wpQuiet_nil ?_
            rintro _ ⟨⟨w6, hg6⟩, rfl⟩
            go_wp2
            go_ret
            exact ⟨ret_bool HE.out.symm, hgwi.trans hg6⟩
        · obtain rfl : j = n := by have := HJ.out; omega
          have HFk : Hid (Rm.fine k (V.r.ls k) = true) := Lib.hid (by
            rw [hls]
            refine Rm.fine_iff.2 ⟨by rw [HLL.out]; exact h40, fun a ha => ?_, (Rm.rise_iff _).2 (fun t a b ea eb => ?_)⟩
            · obtain ⟨t, ht⟩ := List.mem_iff_getElem?.1 ha
              exact H1.out t a (by rw [← HLL.out]; exact (List.getElem?_eq_some_iff.1 ht).1) ht
            · exact H2.out t a b (by rw [← HLL.out]; exact (List.getElem?_eq_some_iff.1 eb).1) ea eb)
          have HFj := Lib.hid (show ∀ i, i < k + 1 → Rm.fine i (V.r.ls i) = true from fun i hi => by
            rcases Nat.lt_or_ge i k with h | h
            · exact HFi.out i h
            · obtain rfl : i = k := by omega
              exact HFk.out)
          have hcz := gr_cell hgi hc
          by_cases h7 : k < 7
          · as_aux_lemma =>
            have h7i : (k : Int) < 7 := by omega
            have HO2 : Hid (Rm.oth V (k + 1) = z + j) := Lib.hid (by rw [HO.out, if_pos h7])
            clear hN hc HO
            go_wp2
            go_roundg (8 - (k + 1))
            case measure => have := HG.out; omega
            case rel => exact ⟨k + 1, by go_num, by rw [HO2.out]; go_num, by have := HG.out; omega, hg.trans hgi, HFj⟩
          · as_aux_lemma =>
            have h7i : ¬ (k : Int) < 7 := by omega
            have HO2 : Hid (Rm.oth V (k + 1) = z) := Lib.hid (by rw [HO.out, if_neg h7, Nat.add_zero])
            clear hN hc HO
            go_wp2
            go_roundg (8 - (k + 1))
            case measure => have := HG.out; omega
            case rel => exact ⟨k + 1, by go_num, by rw [HO2.out], by have := HG.out; omega, hg.trans hgi, HFj⟩
    · obtain rfl : k = 8 := by have := HG.out; omega
      have hbo := HBX.out.gr hg
      have hgw := hgX.trans hg
      have hN := HM.out.d
      have hob : Rm.oth V 8 ≤ 360 := by
        have := Rm.oth_le V hd40 8 (by omega) (fun i hi => by
          have h1 := Rm.fine_len (HFi.out i hi)
          rw [(HM.out.l i (by omega)).1] at h1
          exact h1)
        omega
      have hlb : ∀ i, i < 8 → (V.sl i).n ≤ 40 := fun i hi => by
          have h1 := Rm.fine_len (HFi.out i hi)
          rw [(HM.out.l i (by omega)).1] at h1
          exact h1
      clear c11
      have c11 := hbo.c11
      have HBO := Lib.hid hbo
      have HLB := Lib.hid hlb
      clear hbo hlb HC8
      have hday40 := hd40
      generalize Rm.oth V 8 = z at *
      generalize V.day.A = A at *
      generalize V.day.n = n at *
      generalize V.day.c = c at *
      generalize hls : V.r.day = l at *
      have HLL := Lib.hid hN.1
      go_wp2
      go_loopg [7, 145] n (fun g v7 v wx => ∃ j : Nat, ∃ b : Bool, v = .int .i64 (j : Int) ∧ v7 = .bool b ∧ j + g = n ∧ Gr wo wx ∧ Hid (b = false ↔ ∀ (t : Nat) (p : Int × Int), t < j → l[t]? = some p → p.1 = 0) ∧ Hid (∀ (t : Nat) p, t < j → l[t]? = some p → Rm.mayD p = true) ∧ Hid (∀ (t : Nat) a b, t + 1 < j → l[t]? = some a → l[t + 1]? = some b → Rm.bef a b = true))
      case atStart => exact ⟨0, false, rfl, rfl, by omega, Gr.refl _, Lib.hid ⟨fun _ t p h => absurd h (by omega), fun _ => rfl⟩, Lib.hid (fun t a h => absurd h (by omega)), Lib.hid (fun t a b h => absurd h (by omega))⟩
      case round =>
        obtain ⟨j, b, rfl, rfl, hjg, hgi, HBn, H1, H2⟩ := hrel
        have HJ := Lib.hid hjg
        clear hjg
        have hgwi := hgw.trans hgi
        by_cases hj : j < n
        · obtain ⟨ad, hj', rfl, hbl, hc0, hc1⟩ := hN.at_ hj
          have d0 := gr_cell hgwi hc0
          have d1 := gr_cell hgwi hc1
          have ds := gr_cell hgi c11
          have hjn : (j : Int) < (n : Int) := by omega
          have HXj := Lib.hid (List.getElem?_eq_getElem hj')
          have cM := fun w' => rmayDay_any l[j].1 l[j].2 w'
          have us := after_cell ds
          have u0 := after_cell d0
          have u1 := after_cell d1
          dsimp only [dv1, dv2] at u0 u1
          rcases hmay : Rm.mayD l[j]
          · as_aux_lemma =>
            rw [show Rm.mayD (l[j].1, l[j].2) = false from hmay] at cM
            have HE : Hid (q = false) := Lib.hid (by
              cases hc : q
              · rfl
              · have h1 := (HF.out.1 hc).2.2.2.1
                have h2 := (Rm.fineD_iff.1 h1).2.1 l[j] (List.getElem_mem hj')
                rw [hmay] at h2
                cases h2)
            clear hmay hN hc0 hc1 d0 d1 ds
            generalize l[j].1 = x1 at *
            generalize l[j].2 = x2 at *
            go_wp2_with fail
            refine wp_region_after (by kernel_rfl) (by kernel_rfl) ?_
            repeat (go_big_quiet_step (first | (go_at_call 26; exact qafter (cM _))))
            refine wpQuiet_nil ?_
            rintro _ ⟨⟨w6, hg6⟩, rfl⟩
            go_wp2
            go_ret
            exact ⟨ret_bool HE.out.symm, hgwi.trans hg6⟩
          rw [show Rm.mayD (l[j].1, l[j].2) = true from hmay] at cM
          have HR1 := Lib.hid (show ∀ (t : Nat) p, t < j + 1 → l[t]? = some p → Rm.mayD p = true from fun t a ht e => by
            by_cases h : t < j
            · exact H1.out t a h e
            · obtain rfl : t = j := by omega
              rw [HXj.out] at e
              cases e
              exact hmay)
          have HBj := Lib.hid (show ∀ b' : Bool, (b' = false ↔ (b = false ∧ l[j].1 = 0)) → (b' = false ↔ ∀ (t : Nat) (p : Int × Int), t < j + 1 → l[t]? = some p → p.1 = 0) from fun b' hb' => by
            rw [hb', HBn.out]
            constructor
            · rintro ⟨h1, h2⟩ t p ht e
              by_cases h : t < j
              · exact h1 t p h e
              · obtain rfl : t = j := by omega
                rw [HXj.out] at e
                cases e
                exact h2
            · intro h
              exact ⟨fun t p ht e => h t p (by omega) e, h j _ (by omega) HXj.out⟩)
          clear hmay
          by_cases h0 : j = 0
          · as_aux_lemma =>
            subst h0
            have d0' : wr.cell? ad = some (.int .i64 l[0].1) := d0
            have d1' : wr.cell? ⟨ad.block, ad.off + 1, none⟩ = some (.int .i64 l[0].2) := d1
            have u0 := after_cell d0'
            have u1 := after_cell d1'
            clear hN hc0 hc1 d0 d1 ds HXj
            generalize l[0].1 = x1 at *
            generalize l[0].2 = x2 at *
            go_wp2_with fail
            refine wp_region_after (by kernel_rfl) (by kernel_rfl) ?_
            repeat (go_big_quiet_step (first | (go_at_call 26; exact qafter (cM _))))
            refine wpQuiet_nil ?_
            rintro _ ⟨⟨w6, hg6⟩, rfl⟩
            have ds := gr_cell (hgi.trans hg6) c11
            have d0 := gr_cell hg6 d0'
            rcases b
            · by_cases hx : x1 = 0
              · subst hx
                go_wp2
                go_roundg (n - (0 + 1))
                case measure => have := HJ.out; omega
                case rel => exact ⟨1, false, by go_num, rfl, by omega, hgi.trans hg6, Lib.hid (HBj.out false (by simp)), HR1, Lib.hid (fun t a b h => absurd h (by omega))⟩
              · have hxb : (x1 != 0) = true := by simpa using hx
                go_wp2
                go_roundg (n - (0 + 1))
                case measure => have := HJ.out; omega
                case rel => exact ⟨1, true, by go_num, by first | rfl | rw [hxb], by omega, hgi.trans hg6, Lib.hid (HBj.out true (by simp [hx])), HR1, Lib.hid (fun t a b h => absurd h (by omega))⟩
            · go_wp2
              go_roundg (n - (0 + 1))
              case measure => have := HJ.out; omega
              case rel => exact ⟨1, true, by go_num, rfl, by omega, hgi.trans hg6, Lib.hid (HBj.out true (by simp)), HR1, Lib.hid (fun t a b h => absurd h (by omega))⟩
          obtain ⟨m, rfl⟩ : ∃ m, j = m + 1 := ⟨j - 1, by omega⟩
          obtain ⟨ad2, hm', e2, _, hm0, hm1⟩ := hN.at_ (k := m) (by omega)
          obtain rfl := Option.some.inj e2
          have um0 := after_cell (gr_cell hgwi hm0)
          have um1 := after_cell (gr_cell hgwi hm1)
          dsimp only [dv1, dv2] at um0 um1
          have d0' : wr.cell? ⟨ad.block, ad.off + (m + 1) * 2, none⟩ = some (.int .i64 l[m + 1].1) := by have h := d0; unfold Addr.add at h; simpa using h
          have d1' : wr.cell? ⟨ad.block, ad.off + (m + 1) * 2 + 1, none⟩ = some (.int .i64 l[m + 1].2) := by have h := d1; unfold Addr.add at h; simpa using h
          have u0' := after_cell d0'
          have u1' := after_cell d1'
          have HY := Lib.hid (List.getElem?_eq_getElem hm')
          have cB := fun w' => rbefore_any l[m].1 l[m].2 l[m + 1].1 l[m + 1].2 w'
          have hj0 : (0 : Int) < ((m : Int) + 1) := by omega
          have hmn : (m : Int) < (n : Int) := by omega
          have hjn : (m : Int) + 1 < (n : Int) := by omega
          rcases hlt : Rm.bef l[m] l[m + 1]
          · as_aux_lemma =>
            rw [show Rm.bef (l[m].1, l[m].2) (l[m + 1].1, l[m + 1].2) = false from hlt] at cB
            have HE : Hid (q = false) := Lib.hid (by
              cases hc : q
              · rfl
              · have h1 := (HF.out.1 hc).2.2.2.1
                have h2 := (Rm.riseD_iff _).1 (Rm.fineD_iff.1 h1).2.2 m _ _ HY.out HXj.out
                rw [hlt] at h2
                cases h2)
            clear hN hc0 hc1 d0 d1 ds hm0 hm1 h0 hlt d0' d1'
            generalize l[m + 1].1 = x1 at *
            generalize l[m + 1].2 = x2 at *
            generalize l[m].1 = y1 at *
            generalize l[m].2 = y2 at *
            go_wp2_with fail
            refine wp_region_after (by kernel_rfl) (by kernel_rfl) ?_
            repeat (go_big_quiet_step (first | (go_at_call 26; exact qafter (cM _)) | (go_at_call 27; exact qafter (cB _))))
            refine wpQuiet_nil ?_
            rintro _ ⟨⟨w6, hg6⟩, rfl⟩
            go_wp2
            go_ret
            exact ⟨ret_bool HE.out.symm, hgwi.trans hg6⟩
          · as_aux_lemma =>
            rw [show Rm.bef (l[m].1, l[m].2) (l[m + 1].1, l[m + 1].2) = true from hlt] at cB
            have HR2 := Lib.hid (show ∀ (t : Nat) a b, t + 1 < m + 1 + 1 → l[t]? = some a → l[t + 1]? = some b → Rm.bef a b = true from fun t a b ht ea eb => by
              by_cases h : t + 1 < m + 1
              · exact H2.out t a b h ea eb
              · obtain rfl : t = m := by omega
                rw [HY.out] at ea
                rw [HXj.out] at eb
                cases ea
                cases eb
                exact hlt)
            have D0 := Lib.hid (show wr.cell? (ad.add ((m + 1) * 2)) = some (.int .i64 l[m + 1].1) from d0)
            clear hN hc0 hc1 d0 d1 ds hm0 hm1 h0 hlt HXj HY
            generalize l[m + 1].1 = x1 at *
            generalize l[m + 1].2 = x2 at *
            generalize l[m].1 = y1 at *
            generalize l[m].2 = y2 at *
            go_wp2_with fail
            refine wp_region_after (by kernel_rfl) (by kernel_rfl) ?_
            repeat (go_big_quiet_step (first | (go_at_call 26; exact qafter (cM _)) | (go_at_call 27; exact qafter (cB _))))
            refine wpQuiet_nil ?_
            rintro _ ⟨⟨w6, hg6⟩, rfl⟩
            have ds := gr_cell (hgi.trans hg6) c11
            have d0b := gr_cell hg6 D0.out
            have d0 := gr_cell hg6 d0'
            rcases b
            · by_cases hx : x1 = 0
              · subst hx
                go_wp2
                go_roundg (n - (m + 1 + 1))
                case measure => have := HJ.out; omega
                case rel => exact ⟨m + 1 + 1, false, by go_num, rfl, by omega, hgi.trans hg6, Lib.hid (HBj.out false (by simp)), HR1, HR2⟩
              · have hxb : (x1 != 0) = true := by simpa using hx
                go_wp2
                go_roundg (n - (m + 1 + 1))
                case measure => have := HJ.out; omega
                case rel => exact ⟨m + 1 + 1, true, by go_num, by first | rfl | rw [hxb], by omega, hgi.trans hg6, Lib.hid (HBj.out true (by simp [hx])), HR1, HR2⟩
            · go_wp2
              go_roundg (n - (m + 1 + 1))
              case measure => have := HJ.out; omega
              case rel => exact ⟨m + 1 + 1, true, by go_num, rfl, by omega, hgi.trans hg6, Lib.hid (HBj.out true (by simp)), HR1, HR2⟩
        · obtain rfl : j = n := by have := HJ.out; omega
          have HFD2 := Lib.hid (show Rm.fineD l = true from by
            refine Rm.fineD_iff.2 ⟨by rw [HLL.out]; exact hd40, fun a ha => ?_, (Rm.riseD_iff _).2 (fun t a b ea eb => ?_)⟩
            · obtain ⟨t, ht⟩ := List.mem_iff_getElem?.1 ha
              exact H1.out t a (by rw [← HLL.out]; exact (List.getElem?_eq_some_iff.1 ht).1) ht
            · exact H2.out t a b (by rw [← HLL.out]; exact (List.getElem?_eq_some_iff.1 eb).1) ea eb)
          have HB0 := Lib.hid (show b = false ↔ ∀ p ∈ l, p.1 = 0 from by
            rw [HBn.out]
            constructor
            · intro h p hp
              obtain ⟨t, ht⟩ := List.mem_iff_getElem?.1 hp
              exact h t p (by rw [← HLL.out]; exact (List.getElem?_eq_some_iff.1 ht).1) ht
            · exact fun h t p _ e => h p (List.mem_of_getElem? e))
          have hbr := HBO.out.gr hgi
          have hgf := hgw.trans hgi
          obtain ⟨e0, e1, e2, e3, e4, e5, e6, e7, e8, e9, e10, e11, e12, e13, e14, e15, e16⟩ := hbr
          clear e1 e2 e3 e4 e5 e6 e7 e8 e9 e10 e11 e15
          have hym : V.yday.n ≤ 40 := HLB.out 4 (by decide)
          have hwm : V.week.n ≤ 40 := HLB.out 5 (by decide)
          have hmm : V.mday.n ≤ 40 := HLB.out 3 (by decide)
          have hpm : V.pos.n ≤ 40 := HLB.out 7 (by decide)
          have HXq := Lib.hid (show q = true ↔ ((V.r.freq = 4 ∨ V.yday.n + V.week.n = 0) ∧ (V.r.freq ≠ 2 ∨ V.mday.n = 0) ∧ (V.pos.n = 0 ∨ z ≠ 0)) ∧ (b = false ∨ V.r.freq = 3 ∨ (V.r.freq = 4 ∧ V.week.n = 0)) from by
            rw [HF.out, HX.out, HB0.out]
            constructor
            · rintro ⟨_, _, _, _, h1, h2, h3, h4⟩
              exact ⟨⟨h1, h2, h3⟩, h4⟩
            · rintro ⟨⟨h1, h2, h3⟩, h4⟩
              have hc := HC.out
              exact ⟨⟨hc.1, hc.2.1, hc.2.2.1, hc.2.2.2.1, hc.2.2.2.2.1, hc.2.2.2.2.2.1, hc.2.2.2.2.2.2.1, hc.2.2.2.2.2.2.2.1⟩, HUT.out, HFi.out, HFD2.out, h1, h2, h3, h4⟩)
          clear HFD2 HB0 HBn H1 H2 HF HX HC HUT HFi HM HN HFD HLB HBO HBX HLL HG HJ hN c11 hls
          generalize V.r.freq = a0 at *
          generalize V.yday.n = y at *
          generalize V.yday.A = yA at *
          generalize V.yday.c = yc at *
          generalize V.week.n = k at *
          generalize V.week.A = kA at *
          generalize V.week.c = kc at *
          generalize V.mday.n = m at *
          generalize V.mday.A = mA at *
          generalize V.mday.c = mc at *
          generalize V.pos.n = p at *
          generalize V.pos.A = pA at *
          generalize V.pos.c = pc at *
          obtain ⟨b3, HB3⟩ : ∃ b3 : Bool, Hid (b3 = false ↔ (a0 = 4 ∨ y + k = 0) ∧ (a0 ≠ 2 ∨ m = 0) ∧ (p = 0 ∨ z ≠ 0)) := by
            by_cases h : (a0 = 4 ∨ y + k = 0) ∧ (a0 ≠ 2 ∨ m = 0) ∧ (p = 0 ∨ z ≠ 0)
            · exact ⟨false, Lib.hid ⟨fun _ => h, fun _ => rfl⟩⟩
            · exact ⟨true, Lib.hid ⟨fun e => (by cases e), fun e => absurd e h⟩⟩
          go_upto_region 29 with fail
          go_cut [218] from 185 (fun v wx => v = .bool b3 ∧ wr = wx)
          case first =>
            as_aux_lemma =>
            clear HXq
            by_cases h4 : a0 = 4
            · subst h4
              by_cases hp : p = 0
              · have hp0 : ¬ (0 : Int) < (p : Int) := by omega
                have HE : Hid (b3 = false) := Lib.hid (HB3.out.2 (by omega))
                clear HB3
                try clear hzz
                go_wp2
                go_meet
                case rel => exact ⟨by first | rw [HE.out] | (rw [HE.out]; simp), rfl⟩
              · have hp0 : (0 : Int) < (p : Int) := by omega
                by_cases hzz : z = 0
                · have hz0 : ((z : Int) == 0) = true := by rw [beq_iff_eq]; omega
                  have HE : Hid (b3 = true) := Lib.hid (by cases hc : b3; exact absurd (HB3.out.1 hc) (by omega); rfl)
                  clear HB3
                  try clear hzz
                  go_wp2
                  go_meet
                  case rel => exact ⟨by first | rw [HE.out] | (rw [HE.out]; simp), rfl⟩
                · have hz0 : ((z : Int) == 0) = false := by rw [beq_eq_false_iff_ne]; omega
                  have HE : Hid (b3 = false) := Lib.hid (HB3.out.2 (by omega))
                  clear HB3
                  try clear hzz
                  go_wp2
                  go_meet
                  case rel => exact ⟨by first | rw [HE.out] | (rw [HE.out]; simp), rfl⟩
            · have hb4 : (a0 != 4) = true := by simpa using h4
              by_cases hy : y + k = 0
              rotate_left
              · have hy0 : (0 : Int) < (y : Int) + (k : Int) := by omega
                have HE : Hid (b3 = true) := Lib.hid (by cases hc : b3; exact absurd (HB3.out.1 hc) (by omega); rfl)
                clear HB3
                try clear hzz
                go_wp2
                go_meet
                case rel => exact ⟨by first | rw [HE.out] | (rw [HE.out]; simp), rfl⟩
              have hy0 : ¬ (0 : Int) < (y : Int) + (k : Int) := by omega
              by_cases h2 : a0 = 2
              · subst h2
                by_cases hm : m = 0
                rotate_left
                · have hm0 : (0 : Int) < (m : Int) := by omega
                  have HE : Hid (b3 = true) := Lib.hid (by cases hc : b3; exact absurd (HB3.out.1 hc) (by omega); rfl)
                  clear HB3
                  try clear hzz
                  go_wp2
                  go_meet
                  case rel => exact ⟨by first | rw [HE.out] | (rw [HE.out]; simp), rfl⟩
                have hm0 : ¬ (0 : Int) < (m : Int) := by omega
                by_cases hp : p = 0
                · have hp0 : ¬ (0 : Int) < (p : Int) := by omega
                  have HE : Hid (b3 = false) := Lib.hid (HB3.out.2 (by omega))
                  clear HB3
                  try clear hzz
                  go_wp2
                  go_meet
                  case rel => exact ⟨by first | rw [HE.out] | (rw [HE.out]; simp), rfl⟩
                · have hp0 : (0 : Int) < (p : Int) := by omega
                  by_cases hzz : z = 0
                  · have hz0 : ((z : Int) == 0) = true := by rw [beq_iff_eq]; omega
                    have HE : Hid (b3 = true) := Lib.hid (by cases hc : b3; exact absurd (HB3.out.1 hc) (by omega); rfl)
                    clear HB3
                    try clear hzz
                    go_wp2
                    go_meet
                    case rel => exact ⟨by first | rw [HE.out] | (rw [HE.out]; simp), rfl⟩
                  · have hz0 : ((z : Int) == 0) = false := by rw [beq_eq_false_iff_ne]; omega
                    have HE : Hid (b3 = false) := Lib.hid (HB3.out.2 (by omega))
                    clear HB3
                    try clear hzz
                    go_wp2
                    go_meet
                    case rel => exact ⟨by first | rw [HE.out] | (rw [HE.out]; simp), rfl⟩
              · have hb2 : (a0 == 2) = false := beq_eq_false_iff_ne.2 h2
                by_cases hp : p = 0
                · have hp0 : ¬ (0 : Int) < (p : Int) := by omega
                  have HE : Hid (b3 = false) := Lib.hid (HB3.out.2 (by omega))
                  clear HB3
                  try clear hzz
                  go_wp2
                  go_meet
                  case rel => exact ⟨by first | rw [HE.out] | (rw [HE.out]; simp), rfl⟩
                · have hp0 : (0 : Int) < (p : Int) := by omega
                  by_cases hzz : z = 0
                  · have hz0 : ((z : Int) == 0) = true := by rw [beq_iff_eq]; omega
                    have HE : Hid (b3 = true) := Lib.hid (by cases hc : b3; exact absurd (HB3.out.1 hc) (by omega); rfl)
                    clear HB3
                    try clear hzz
                    go_wp2
                    go_meet
                    case rel => exact ⟨by first | rw [HE.out] | (rw [HE.out]; simp), rfl⟩
                  · have hz0 : ((z : Int) == 0) = false := by rw [beq_eq_false_iff_ne]; omega
                    have HE : Hid (b3 = false) := Lib.hid (HB3.out.2 (by omega))
                    clear HB3
                    try clear hzz
                    go_wp2
                    go_meet
                    case rel => exact ⟨by first | rw [HE.out] | (rw [HE.out]; simp), rfl⟩
          case rest =>
          obtain ⟨rfl, rfl⟩ := hcut
          rcases b3
          rotate_left
          · as_aux_lemma =>
            have HE : Hid (q = false) := Lib.hid (by
              cases hc : q
              · rfl
              · have h2 := HB3.out.2 (HXq.out.1 hc).1
                cases h2)
            clear HB3 HXq
            go_wp2
            go_ret
            exact ⟨ret_bool HE.out.symm, hgf⟩
          have HQ := Lib.hid (show q = true ↔ (b = false ∨ a0 = 3 ∨ (a0 = 4 ∧ k = 0)) from by rw [HXq.out]; exact and_iff_right (HB3.out.1 rfl))
          clear HB3 HXq
          rcases b
          · as_aux_lemma =>
            have HE : Hid (q = true) := Lib.hid (HQ.out.2 (.inl rfl))
            clear HQ
            go_wp2
            go_ret
            exact ⟨ret_bool HE.out.symm, hgf⟩
          by_cases h3 : a0 = 3
          · as_aux_lemma =>
            subst h3
            have HE : Hid (q = true) := Lib.hid (HQ.out.2 (.inr (.inl rfl)))
            clear HQ
            go_wp2
            go_ret
            exact ⟨ret_bool HE.out.symm, hgf⟩
          have hb3 : (a0 == 3) = false := beq_eq_false_iff_ne.2 h3
          by_cases h4 : a0 = 4
          · subst h4
            by_cases hk0 : k = 0
            · as_aux_lemma =>
              have hkb : ((k : Int) == 0) = true := by rw [beq_iff_eq]; omega
              have HE : Hid (q = true) := Lib.hid (HQ.out.2 (.inr (.inr ⟨rfl, hk0⟩)))
              clear HQ hk0
              go_wp2
              go_ret
              exact ⟨ret_bool (by first | exact HE.out.symm | (rw [HE.out, hkb])), hgf⟩
            · as_aux_lemma =>
              have hkb : ((k : Int) == 0) = false := by rw [beq_eq_false_iff_ne]; omega
              have HE : Hid (q = false) := Lib.hid (by
                cases hc : q
                · rfl
                · rcases HQ.out.1 hc with h | h | h
                  · cases h
                  · exact absurd h (by decide)
                  · exact absurd h.2 hk0)
              clear HQ hk0
              go_wp2
              go_ret
              exact ⟨ret_bool (by first | exact HE.out.symm | (rw [HE.out, hkb])), hgf⟩
          · as_aux_lemma =>
            have hb4 : (a0 == 4) = false := beq_eq_false_iff_ne.2 h4
            have HE : Hid (q = false) := Lib.hid (by
              cases hc : q
              · rfl
              · rcases HQ.out.1 hc with h | h | h
                · cases h
                · exact absurd h h3
                · exact absurd h.1 h4)
            clear HQ
            go_wp2
            go_ret
            exact ⟨ret_bool HE.out.symm, hgf⟩

end Go.Proofs.YtmbmkldcedkbmaaGreat
