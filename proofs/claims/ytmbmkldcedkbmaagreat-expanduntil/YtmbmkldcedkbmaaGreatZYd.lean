/- What the reference's Means (layer 14) returns. -/
import Derived.Test.YtmbmkldcedkbmaaGreatZXG
namespace Go.Proofs.YtmbmkldcedkbmaaGreat
open Go.RowKit

namespace Ex
theorem addM_yes {r : Rm.Ru} {B e x most : Int} {out : List Int} (h1 : B < x) (h2 : x ≤ e) (h3 : (out.length : Int) < most) (h4 : r.cnt = 0 ∨ (out.length : Int) < r.cnt) : addM r B e most.toNat out x = out ++ [x] := by
  unfold addM
  rw [if_pos]
  refine ⟨by unfold inB; simp [h1, h2], ?_⟩
  unfold lim
  split <;> omega
theorem addM_no {r : Rm.Ru} {B e x most : Int} {out : List Int} (h0 : 0 ≤ r.cnt) (h : ¬ (B < x ∧ x ≤ e ∧ (out.length : Int) < most ∧ (r.cnt = 0 ∨ (out.length : Int) < r.cnt))) : addM r B e most.toNat out x = out := by
  unfold addM
  rw [if_neg]
  rintro ⟨h1, h2⟩
  unfold inB at h1
  simp only [Bool.and_eq_true, decide_eq_true_eq] at h1
  unfold lim at h2
  refine h ⟨h1.1, h1.2, ?_⟩
  split at h2 <;> omega
theorem loopM_full {r : Rm.Ru} {B e k most : Int} {out : List Int} (h : most ≤ out.length) : ∀ f, loopM r B e most.toNat f k out = out
  | 0 => rfl
  | f + 1 => by unfold loopM; rw [if_pos (by omega)]
theorem loopM_stop {r : Rm.Ru} {B e k most : Int} {out : List Int} (h : stop r B e k = true) : ∀ f, loopM r B e most.toNat f k out = out
  | 0 => rfl
  | f + 1 => by
    unfold loopM
    split
    · rfl
    · rfl
theorem loopM_go {r : Rm.Ru} {B e k most : Int} {out : List Int} {f : Nat} (h : (out.length : Int) < most) (hs : stop r B e k = false) : loopM r B e most.toNat (f + 1) k out =
    if 0 < r.cnt ∧ r.cnt.toNat ≤ ((tms r (B / 86400) k (secs r (B % 86400))).foldl (addM r B e most.toNat) out).length then (tms r (B / 86400) k (secs r (B % 86400))).foldl (addM r B e most.toNat) out
    else loopM r B e most.toNat f (k + r.ivl) ((tms r (B / 86400) k (secs r (B % 86400))).foldl (addM r B e most.toNat) out) := by
  conv => lhs; unfold loopM
  rw [if_neg (by omega), hs]
  rfl
end Ex
set_option maxRecDepth 100000 in
set_option maxHeartbeats 16000000 in
theorem rmeans_any (V : Rm.Rv) (b last most : Int) (w : World) (hM : RuM w w.heap.size V) (hd : V.day.n ≤ 140737488355328) (hn : ∀ i, i < 8 → (V.sl i).n ≤ 140737488355328)
    (hf : Rm.fm V.r = true) (hb : Clk.okB b = true) (hl1 : -2000000000000000 ≤ last) (hl2 : last ≤ 2000000000000000) (m1 : 0 ≤ most) (m2 : most ≤ 1000) (hpd : PD V ≤ 200) (hua : V.r.has = true → -1000000000000 ≤ V.r.ua ∧ V.r.ua ≤ 1000000000000) :
    Calls Tryz.prog 17 #[.agg V.val, .int .i64 b, .int .i64 last, .int .i64 most] w fun e w' => ∃ A n c, e = .returned (.slice A n c) ∧ Gr w w' ∧ Hid (Nums w' w'.heap.size A n (Ex.means V.r b last most.toNat)) ∧ n ≤ c := by
  obtain ⟨f1, ⟨i1, i2⟩, f3⟩ := fm_head hf
  have hdb := okB_dayB hb
  obtain ⟨b1, b2⟩ := Clk.okB_iff.1 hb
  have hc0 := (Rm.fm_all hf).2.2.1
  have tb : b.tdiv 86400 = b / 86400 := Int.tdiv_eq_ediv_of_nonneg (by omega)
  have x1 : 0 ≤ b / 86400 := by omega
  have x2 : b / 86400 ≤ 1000000000 := by omega
  have hbx := RBx.now w V 27
  have hg : Gr w (w.alloc (.cells V.val 27)) := (Gr.refl w).allocO _
  have HSN : Hid ((Ex.secs V.r (b % 86400)).length ≤ 200) := Lib.hid (by have := secs_len V b hf (hM.l 0 (by decide)).1 (hM.l 1 (by decide)).1 (hM.l 2 (by decide)).1; omega)
  have hS := Lib.hid (fun w' (g : Gr w w') => rsecs_anyK V b w' (hM.gr g) hn (by omega))
  have hT := Lib.hid (fun k (k1 : -4000000 ≤ k) (k2 : k ≤ 4000000) S ns cs w' (g : Gr w w') (hS : Nums w' w'.heap.size S ns (Ex.secs V.r (b % 86400))) => rtimes_anyK V b k S ns cs _ w' (hM.gr g) hd hn hf hb k1 k2 hS (by rw [← hS.1]; exact HSN.out) Ex.secs_bd)
  have hP := Lib.hid (fun k (k1 : -4000000 ≤ k) (k2 : k ≤ 4000000) w' => rspan_any V (b / 86400) k w' f3 hdb k1 k2)
  have hSD := Lib.hid (fun k => Ex.span_day V.r (b / 86400) k)
  have hfar := Lib.hid (fun e k (h : 3652059 < k) => Ex.stop_far (r := V.r) (B := b) (e := e) hdb f3 h)
  have hlen := Lib.hid (fun k => Ex.tms_len V.r (b / 86400) k _ HSN.out)
  have HR : Hid (Ex.means V.r b last most.toNat = if last < b ∨ most.toNat = 0 then [] else Ex.loopM V.r b (Ex.fin V.r last) most.toNat 3652062 0 [b]) := Lib.hid (by
    split
    · rename_i h; unfold Ex.means; rw [if_pos h]
    · rename_i h; exact (Ex.means_loop hdb f3 i1 hc0.1 h (Nat.le_refl _)).symm)
  generalize Ex.means V.r b last most.toNat = RS at *
  clear hM hd hn hf hb f1 f3 hdb HSN hpd
  have e0 := hbx.c6
  have e1 := hbx.c4
  have e2 := hbx.c3
  have HX := Lib.hid hbx
  clear hbx
  go_enter Tryz.func17, Tryz.ntmps17
  go_upto_region 2 with fail
  generalize w.alloc (.cells V.val 27) = W at *
  by_cases hlb : last < b
  · as_aux_lemma =>
    have H : Hid (RS = []) := Lib.hid (by rw [HR.out, if_pos (.inl hlb)])
    go_wp2
    go_ret
    first | exact ⟨none, 0, 0, rfl, hg, Lib.hid (by rw [H.out]; exact Nums.nil _ _ _), Nat.le_refl _⟩ | exact ⟨none, 0, ⟨0, rfl⟩, hg, Lib.hid (by rw [H.out]; exact Nums.nil _ _ _), Nat.le_refl _⟩
  by_cases hm0 : most < 1
  · as_aux_lemma =>
    have H : Hid (RS = []) := Lib.hid (by rw [HR.out, if_pos (.inr (by omega))])
    go_wp2
    go_ret
    first | exact ⟨none, 0, 0, rfl, hg, Lib.hid (by rw [H.out]; exact Nums.nil _ _ _), Nat.le_refl _⟩ | exact ⟨none, 0, ⟨0, rfl⟩, hg, Lib.hid (by rw [H.out]; exact Nums.nil _ _ _), Nat.le_refl _⟩
  have HR2 := Lib.hid (by have := HR.out; rwa [if_neg (by omega)] at this)
  clear HR
  have ho0 : OwnV W W.heap.size 2 none 0 0 [] := OwnV.nil _ _ _
  go_upto_region 6 with (at_builtin; refine apP W rfl (.tmp 25) (.tmp 27) 30 2 (.int .i64 0) Tryz.underlying30 info_i64 rfl rfl W.heap.size none 0 0 [] rfl ho0 (.int .i64 b) rfl rfl (by omega) (Nat.le_refl _) ?_; intro g5 cap5 w1 hA5)
  have ho1 := hA5.own
  have hg1 := hA5.gr (w0 := W) ho0 (Nat.le_refl _) (Gr.refl _)
  have ho1 : OwnV w1 W.heap.size 2 (some ⟨g5, 0, none⟩) 1 cap5 (ivs [b]) := ho1
  clear hA5 ho0
  have hx := HX.out.gr hg1
  have e0 := hx.c6
  have e1 := hx.c4
  have e2 := hx.c3
  have HX1 := Lib.hid hx
  have HXW := HX
  clear hx HX
  have hfin : Hid (∃ E, Ex.fin V.r last = E ∧ -2000000000000000 ≤ E ∧ E ≤ 2000000000000000) := Lib.hid ⟨_, rfl, by unfold Ex.fin; split; (rename_i h; have := hua h; split <;> omega); omega, by unfold Ex.fin; split; (rename_i h; have := hua h; split <;> omega); omega⟩
  have hFE : Hid (Ex.fin V.r last = if V.r.has = true then min last (if V.r.uk = 0 then V.r.ua + 86399 else V.r.ua) else last) := Lib.hid rfl
  obtain ⟨E, hE, E1, E2⟩ := hfin.out
  rw [hE] at hFE
  have HR3 := Lib.hid (by have := HR2.out; rwa [hE] at this)
  clear HR2 hfin
  go_upto_if 31 with fail
  go_cut [10, 11] from 30 (fun v10 v11 wx => v10 = .int .i64 E ∧ Gr w1 wx)
  case first =>
    cases hh : V.r.has
    · as_aux_lemma =>
      have hE2 : Hid (last = E) := Lib.hid (by have := hFE.out; rw [hh, if_neg (by decide)] at this; omega)
      clear hFE hua
      go_wp2
      go_meet
      case rel => exact ⟨by rw [hE2.out], Gr.refl _⟩
    · have hu := hua hh
      by_cases hk : V.r.uk = 0
      · as_aux_lemma =>
        have hE2 : Hid (min last (V.r.ua + 86399) = E) := Lib.hid (by have := hFE.out; rw [hh, if_pos rfl, if_pos hk] at this; omega)
        clear hFE hua
        rw [hk] at e2
        obtain ⟨u1, u2⟩ := hu
        go_wp2
        all_goals
          go_meet
          case rel => exact ⟨by have := hE2.out; (try congr 1) <;> omega, Gr.refl _⟩
      · as_aux_lemma =>
        have hE2 : Hid (min last V.r.ua = E) := Lib.hid (by have := hFE.out; rw [hh, if_pos rfl, if_neg hk] at this; omega)
        clear hFE hua
        obtain ⟨u1, u2⟩ := hu
        go_wp2
        all_goals
          go_meet
          case rel => exact ⟨by have := hE2.out; (try congr 1) <;> omega, Gr.refl _⟩
  case rest =>
    obtain ⟨rfl, hg2⟩ := hcut
    clear e0 e1 e2 hFE hua
    have hx := HX1.out.gr hg2
    have cS := hS.out _ (hg.trans (hg1.trans hg2))
    have hgQ := hg1.trans hg2
    have hoQ := ho1.gr hg2
    clear ho1 HX1 hg1 hg2
    go_wp2_with (refine wpList_load_rule rfl _ rfl rfl hx ?_)
    refine cS.mono ?_
    rintro e w2 ⟨S, ns, cs, rfl, hg3, hSs⟩
    have ho2 := hoQ.gr hg3
    have hgW := hgQ.trans hg3
    have HSO : Hid (Off w2 (some ⟨g5, 0, none⟩) S ns (Ex.secs V.r (b % 86400))) := Lib.hid (hSs.out.off hoQ)
    clear hx hoQ hgQ hg3 cS hS
    have HT2 := Lib.hid (fun k (k1 : -4000000 ≤ k) (k2 : k ≤ 4000000) w' (g : Gr w w') (h : Nums w' w'.heap.size S ns (Ex.secs V.r (b % 86400))) => hT.out k k1 k2 S ns cs w' g h)
    clear hT hSs
    have HLM := Lib.hid (fun (f : Nat) (k : Int) (out : List Int) (h : (out.length : Int) < most) (hs : Ex.stop V.r b E k = false) => Ex.loopM_go (r := V.r) (f := f) h hs)
    have HST := Lib.hid (fun (f : Nat) (k : Int) (out : List Int) (hs : Ex.stop V.r b E k = true) => Ex.loopM_stop (r := V.r) (most := most) (out := out) hs f)
    have HFU := Lib.hid (fun (f : Nat) (k : Int) (out : List Int) (h : most ≤ (out.length : Int)) => Ex.loopM_full (r := V.r) (B := b) (e := E) (k := k) h f)
    have HSP : Hid (∀ k, Ex.stop V.r b E k = (decide ((Mc.span V.r (b / 86400) k).2 < (Mc.span V.r (b / 86400) k).1) || decide (E < 86400 * (Mc.span V.r (b / 86400) k).1))) := Lib.hid (fun k => rfl)
    have HFR := Lib.hid (hfar.out E)
    clear hfar hE
    generalize hss : Ex.secs V.r (b % 86400) = ss at *
    clear hss
    generalize Ex.stop V.r b E = ST at *
    generalize b / 86400 = db at *
    generalize Ex.loopM V.r b E most.toNat = LM at *
    go_wp2
    go_loopg [9, 13] 3652062 (fun g v9 v13 wx => ∃ (out : List Int) (k : Int) (m cp : Nat) (R : Option Addr), v9 = .slice R m cp ∧ v13 = .int .i64 k ∧ 0 ≤ k ∧ k ≤ 3653059 ∧ 3652062 ≤ k + g ∧ Hid (RS = LM g k out) ∧ Hid (OwnV wx W.heap.size 2 R m cp (ivs out)) ∧ Hid (Off wx R S ns ss) ∧ (m : Int) ≤ most ∧ Gr W wx)
    case atStart => exact ⟨[b], 0, 1, cap5, _, rfl, rfl, by omega, by omega, by omega, HR3, Lib.hid ho2, HSO, by omega, hgW⟩
    case round =>
      obtain ⟨out, k, m, cp, R, rfl, rfl, k0, k1, kg, HRS, HO, HSO, hmm, hgr⟩ := hrel
      have hol : out.length = m := ivs_len HO.out
      have HOL := Lib.hid hol
      have hx := HXW.out.gr hgr
      have e5 := hx.c2
      have e6 := hx.c1
      have HKG := Lib.hid kg
      by_cases hlt : (m : Int) < most
      case neg =>
        as_aux_lemma =>
        have H : Hid (RS = out) := Lib.hid (by rw [HRS.out]; exact HFU.out gk k out (by omega))
        clear hol
        go_wp2
        go_ret
        first | exact ⟨R, m, cp, rfl, hg.trans hgr, Lib.hid (by rw [H.out]; exact own_numsK HO.out), HO.out.cap⟩ | exact ⟨R, m, ⟨cp, rfl⟩, hg.trans hgr, Lib.hid (by rw [H.out]; exact own_numsK HO.out), HO.out.cap⟩
      have cP := fun w' => hP.out k (by omega) (by omega) w'
      have hsd := hSD.out k
      have hsp := HSP.out k
      have hfr := HFR.out k
      have hln := hlen.out k
      have hlm := fun f (hs : ST k = false) => HLM.out f k out (by omega) hs
      have hst := fun (hs : ST k = true) => HST.out gk k out hs
      have cT := fun w' (g : Gr w w') (h : Nums w' w'.heap.size S ns ss) => HT2.out k (by omega) (by omega) w' g h
      clear hP hSD HSP HFR hlen HLM HST HT2 HFU
      generalize hLL : Ex.tms V.r db k ss = L at *
      clear hLL
      have hsd2 : 0 ≤ (Mc.span V.r db k).1 ∧ (Mc.span V.r db k).1 ≤ 3652059 := by
        rcases hsd with h | h
        · rw [h]; decide
        · omega
      clear hsd
      generalize (Mc.span V.r db k).1 = f at *
      generalize (Mc.span V.r db k).2 = l at *
      obtain ⟨f0, f9⟩ := hsd2
      by_cases hs1 : l < f
      · as_aux_lemma =>
        have H : Hid (RS = out) := Lib.hid (by rw [HRS.out]; exact hst (by rw [hsp, decide_eq_true hs1]; rfl))
        clear hst hlm hol hsp hfr hln cT
        go_wp2_with (first | (refine wpList_load_rule rfl _ rfl rfl hx ?_) | (go_at_call 28; refine (cP _).mono ?_; rintro e w3 ⟨rfl, hg3⟩; have hx := hx.gr hg3))
        go_ret
        first | exact ⟨R, m, cp, rfl, (hg.trans hgr).trans hg3, Lib.hid (by rw [H.out]; exact own_numsK (HO.out.gr hg3)), HO.out.cap⟩ | exact ⟨R, m, ⟨cp, rfl⟩, (hg.trans hgr).trans hg3, Lib.hid (by rw [H.out]; exact own_numsK (HO.out.gr hg3)), HO.out.cap⟩
      by_cases hs2 : E < 86400 * f
      · as_aux_lemma =>
        have H : Hid (RS = out) := Lib.hid (by rw [HRS.out]; exact hst (by rw [hsp, decide_eq_true hs2, Bool.or_true]))
        clear hst hlm hol hsp hfr hln cT
        go_wp2_with (first | (refine wpList_load_rule rfl _ rfl rfl hx ?_) | (go_at_call 28; refine (cP _).mono ?_; rintro e w3 ⟨rfl, hg3⟩; have hx := hx.gr hg3))
        go_ret
        first | exact ⟨R, m, cp, rfl, (hg.trans hgr).trans hg3, Lib.hid (by rw [H.out]; exact own_numsK (HO.out.gr hg3)), HO.out.cap⟩ | exact ⟨R, m, ⟨cp, rfl⟩, (hg.trans hgr).trans hg3, Lib.hid (by rw [H.out]; exact own_numsK (HO.out.gr hg3)), HO.out.cap⟩
      have hns : ST k = false := by rw [hsp, decide_eq_false hs1, decide_eq_false hs2]; rfl
      have hk9 : k ≤ 3652059 := by
        by_cases h : 3652059 < k
        · rw [hfr h] at hns; cases hns
        · omega
      obtain ⟨gg, hgg⟩ : ∃ gg, gk = gg + 1 := ⟨gk - 1, by omega⟩
      have HKN : Hid (3652062 ≤ k + V.r.ivl + gg) := Lib.hid (by have := HKG.out; omega)
      have HGG : Hid (gg < gk) := Lib.hid (by omega)
      have HRN := Lib.hid (by have := HRS.out; rw [hgg, hlm gg hns] at this; exact this)
      clear hst hlm hsp hfr HRS hns
      generalize hAM : Ex.addM V.r b E most.toNat = AM at *
      have HAY := Lib.hid (fun (o : List Int) (x : Int) h1 h2 h3 h4 => (congrFun (congrFun hAM o) x).symm.trans (Ex.addM_yes (r := V.r) (B := b) (e := E) (most := most) (out := o) (x := x) h1 h2 h3 h4))
      have HAN := Lib.hid (fun (o : List Int) (x : Int) h => (congrFun (congrFun hAM o) x).symm.trans (Ex.addM_no (r := V.r) (B := b) (e := E) (most := most) (out := o) (x := x) hc0.1 h))
      clear hAM
      go_wp2_with (first | (refine wpList_load_rule rfl _ rfl rfl hx ?_) | (go_at_call 28; refine (cP _).mono ?_; rintro e w3 ⟨rfl, hg3⟩; have hx := hx.gr hg3))
      refine (cT _ (hg.trans (hgr.trans hg3)) (HSO.out.gr hg3).nums).mono ?_
      rintro e w4 ⟨TA, tn, tc, rfl, hg4, hTL⟩
      have hgr4 := (hgr.trans hg3).trans hg4
      have htl : L.length = tn := hTL.out.1
      have HTO : Hid (Off w4 R TA tn L) := Lib.hid (hTL.out.off (HO.out.gr hg3))
      have HSO := Lib.hid (HSO.out.gr (hg3.trans hg4))
      have ho4 := HO.out.gr (hg3.trans hg4)
      clear cT cP hg3 hg4 HO hx hgr e5 e6 hTL
      have HTL := Lib.hid htl
      go_wp2
      go_loopg [9, 80] tn (fun g v9 v80 wx => ∃ (o2 : List Int) (j m2 cp2 : Nat) (R2 : Option Addr), v9 = .slice R2 m2 cp2 ∧ v80 = .int .i64 (j : Int) ∧ j + g = tn ∧ Hid (o2 = (L.take j).foldl AM out) ∧ Hid (OwnV wx W.heap.size 2 R2 m2 cp2 (ivs o2)) ∧ Hid (Off wx R2 S ns ss) ∧ Hid (Off wx R2 TA tn L) ∧ (m2 : Int) ≤ most ∧ Gr W wx)
      case atStart => exact ⟨out, 0, m, cp, R, rfl, rfl, by omega, Lib.hid rfl, Lib.hid ho4, HSO, HTO, hmm, hgr4⟩
      case round =>
        clear HSO HTO
        obtain ⟨o2, j, m2, cp2, R2, rfl, rfl, hjg, HO2, HW2, HSO, HTO, hm2, hgr5⟩ := hrel
        have HJ := Lib.hid hjg
        clear hjg
        have hol2 : o2.length = m2 := ivs_len HW2.out
        have hx := HXW.out.gr hgr5
        have e5 := hx.c2
        have e6 := hx.c1
        by_cases hj : j < tn
        · obtain ⟨ad, hj', rfl, d0⟩ := HTO.out.at_ hj
          have hjn : (j : Int) < (tn : Int) := by omega
          have HS : Hid ((L.take (j + 1)).foldl AM out = AM o2 L[j]) := Lib.hid (by rw [List.take_succ_eq_append_getElem hj', List.foldl_append, ← HO2.out]; rfl)
          have how := HW2.out
          have ht9 : tn ≤ 1000000000 := by omega
          have HOL2 := Lib.hid hol2
          clear hx
          generalize L[j] = x at *
          by_cases hA : b < x ∧ x ≤ E ∧ (m2 : Int) < most ∧ (V.r.cnt = 0 ∨ (m2 : Int) < V.r.cnt)
          · obtain ⟨a1, a2, a3, a4⟩ := hA
            have HS := Lib.hid (HS.out.trans (HAY.out o2 x a1 a2 (by rw [HOL2.out]; exact a3) (by rw [HOL2.out]; exact a4)))
            rcases a4 with a4 | a4
            · as_aux_lemma =>
              go_wp2_with (at_builtin; refine apP wr rfl (.tmp 115) (.tmp 120) 30 2 (.int .i64 0) Tryz.underlying30 info_i64 rfl rfl W.heap.size R2 m2 cp2 _ rfl how (.int .i64 x) rfl rfl (by omega) hgr5.lt ?_; intro g6 cap6 w6 hA6)
              go_roundg (tn - (j + 1))
              case measure => have := HJ.out; omega
              case rel => exact ⟨o2 ++ [x], j + 1, m2 + 1, cap6, _, by go_num, rfl, by omega, Lib.hid HS.out.symm, Lib.hid (by rw [ivs_app]; exact hA6.own), Lib.hid (HSO.out.ap hA6), Lib.hid (HTO.out.ap hA6), by omega, hA6.gr how (Nat.le_refl _) hgr5⟩
            · as_aux_lemma =>
              have hcn : decide (V.r.cnt = 0) = false := decide_eq_false (by omega)
              go_wp2_with (at_builtin; refine apP wr rfl (.tmp 115) (.tmp 120) 30 2 (.int .i64 0) Tryz.underlying30 info_i64 rfl rfl W.heap.size R2 m2 cp2 _ rfl how (.int .i64 x) rfl rfl (by omega) hgr5.lt ?_; intro g6 cap6 w6 hA6)
              go_roundg (tn - (j + 1))
              case measure => have := HJ.out; omega
              case rel => exact ⟨o2 ++ [x], j + 1, m2 + 1, cap6, _, by go_num, rfl, by omega, Lib.hid HS.out.symm, Lib.hid (by rw [ivs_app]; exact hA6.own), Lib.hid (HSO.out.ap hA6), Lib.hid (HTO.out.ap hA6), by omega, hA6.gr how (Nat.le_refl _) hgr5⟩
          · have HS := Lib.hid (HS.out.trans (HAN.out o2 x (by rw [HOL2.out]; exact hA)))
            have hRel : Hid (∃ (o3 : List Int) (j3 m3 cp3 : Nat) (R3 : Option Addr), Value.slice R2 m2 cp2 = .slice R3 m3 cp3 ∧ Value.int .i64 ((j : Int) + 1) = .int .i64 (j3 : Int) ∧ j3 + (tn - (j + 1)) = tn ∧ Hid (o3 = (L.take j3).foldl AM out) ∧ Hid (OwnV wr W.heap.size 2 R3 m3 cp3 (ivs o3)) ∧ Hid (Off wr R3 S ns ss) ∧ Hid (Off wr R3 (some ad) tn L) ∧ (m3 : Int) ≤ most ∧ Gr W wr) :=
              Lib.hid ⟨o2, j + 1, m2, cp2, R2, rfl, by simp, by omega, Lib.hid HS.out.symm, HW2, HSO, HTO, hm2, hgr5⟩
            have HM : Hid (tn - (j + 1) < gk) := Lib.hid (by have := HJ.out; omega)
            clear HS HW2 HSO HTO HJ HO2 HAY HAN
            by_cases h1 : b < x
            case neg =>
              as_aux_lemma =>
              clear hA
              go_wp2
              go_roundg (tn - (j + 1))
              case measure => exact HM.out
              case rel => exact hRel.out
            by_cases h2 : x ≤ E
            case neg =>
              as_aux_lemma =>
              clear hA
              go_wp2
              go_roundg (tn - (j + 1))
              case measure => exact HM.out
              case rel => exact hRel.out
            by_cases h3 : (m2 : Int) < most
            case neg =>
              as_aux_lemma =>
              clear hA
              go_wp2
              go_roundg (tn - (j + 1))
              case measure => exact HM.out
              case rel => exact hRel.out
            as_aux_lemma =>
            have h4 : V.r.cnt ≠ 0 := fun h => hA ⟨h1, h2, h3, .inl h⟩
            have h5 : ¬ (m2 : Int) < V.r.cnt := fun h => hA ⟨h1, h2, h3, .inr h⟩
            have hcn : decide (V.r.cnt = 0) = false := decide_eq_false h4
            clear hA
            go_wp2
            go_roundg (tn - (j + 1))
            case measure => exact HM.out
            case rel => exact hRel.out
        · have hj' : j = tn := by have := HJ.out; omega
          have HO3 := Lib.hid (by have := HO2.out; rwa [hj', List.take_of_length_le (by rw [HTL.out]; exact Nat.le_refl _)] at this)
          have HRN2 := Lib.hid (by have := HRN.out; rwa [← HO3.out, hol2] at this)
          clear HRN HO2 HO3 HAY HAN hx
          by_cases hc1 : 0 < V.r.cnt
          · by_cases hc2 : V.r.cnt ≤ (m2 : Int)
            · as_aux_lemma =>
              have H : Hid (RS = o2) := Lib.hid (by rw [HRN2.out, if_pos ⟨hc1, by omega⟩])
              go_wp2
              go_ret
              first | exact ⟨R2, m2, cp2, rfl, hg.trans hgr5, Lib.hid (by rw [H.out]; exact own_numsK HW2.out), HW2.out.cap⟩ | exact ⟨R2, m2, ⟨cp2, rfl⟩, hg.trans hgr5, Lib.hid (by rw [H.out]; exact own_numsK HW2.out), HW2.out.cap⟩
            · as_aux_lemma =>
              have H : Hid (RS = LM gg (k + V.r.ivl) o2) := Lib.hid (by rw [HRN2.out, if_neg (fun h => by have := h.2; omega)])
              go_wp2
              go_roundg gg
              case measure => exact Nat.lt_succ_self _
              case rel => exact ⟨o2, k + V.r.ivl, m2, cp2, R2, rfl, by go_num, by omega, by omega, HKN.out, H, HW2, HSO, hm2, hgr5⟩
          · as_aux_lemma =>
            have H : Hid (RS = LM gg (k + V.r.ivl) o2) := Lib.hid (by rw [HRN2.out, if_neg (fun h => hc1 h.1)])
            go_wp2
            go_roundg gg
            case measure => exact Nat.lt_succ_self _
            case rel => exact ⟨o2, k + V.r.ivl, m2, cp2, R2, rfl, by go_num, by omega, by omega, HKN.out, H, HW2, HSO, hm2, hgr5⟩
end Go.Proofs.YtmbmkldcedkbmaaGreat
