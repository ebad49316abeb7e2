/- What fold.Unfold returns. -/
import Derived.Test.YtbdfkpgcjdhcdaaDoorFdSplit
import Derived.Test.YtbdfkpgcjdhcdaaDoorFdJoin
import Derived.Deep.Onto
namespace Go.Proofs.YtbdfkpgcjdhcdaaDoor
open Go.RowKit

namespace Fd
theorem sp_props (n : Nat) (s : List UInt8) : (∀ p ∈ (sp n s).2, p ≠ []) ∧ (sp n s).2.flatten.length ≤ s.length := by
  generalize hm : s.length = m
  induction m using Nat.strongRecOn generalizing s n with
  | _ m ih =>
    by_cases h : s = []
    · subst h; rw [sp_nil]; simp
    · have h1 := al_len s h
      by_cases b : (badp s || (decide (n = 0) && ct (tc (bl s)))) = true
      · rw [sp_bad n s h b]; simp
      · have b' : (badp s || (decide (n = 0) && ct (tc (bl s)))) = false := by simpa using b
        rw [sp_good n s h b']
        have i := ih (al s).tail.length (by omega) (n + 1) (al s).tail rfl
        split
        · constructor
          · intro p hp
            rcases List.mem_cons.1 hp with rfl | hp
            · rw [Bool.or_eq_false_iff] at b'
              unfold badp at b'
              simp at b'
              exact b'.1.1.2
            · exact i.1 p hp
          · simp only [List.flatten_cons, List.length_append]
            have h2 := tc_len (bl s)
            have h3 : (bl s).length + (al s).length = s.length := by
              unfold bl al
              rw [← List.length_append, List.takeWhile_append_dropWhile]
            have h4 : (al s).tail.length ≤ (al s).length := by rw [List.length_tail]; omega
            omega
        · simp
theorem sp_head (s : List UInt8) (p : List UInt8) (h : (sp 0 s).2.head? = some p) : ct p = false := by
  by_cases hs : s = []
  · subst hs; rw [sp_nil] at h; cases h
  · by_cases b : (badp s || (decide (0 = 0) && ct (tc (bl s)))) = true
    · rw [sp_bad 0 s hs b] at h; cases h
    · have b' : (badp s || (decide (0 = 0) && ct (tc (bl s)))) = false := by simpa using b
      rw [sp_good 0 s hs b'] at h
      split at h
      · simp only [List.head?_cons, Option.some.injEq] at h
        subst h
        rw [Bool.or_eq_false_iff] at b'
        simpa using b'.2
      · cases h
theorem tail_flat (cs : List (List UInt8)) : (cs.flatMap List.tail).length ≤ cs.flatten.length := by
  induction cs with
  | nil => simp
  | cons c cs ih =>
    simp only [List.flatMap_cons, List.flatten_cons, List.length_append, List.length_tail]
    omega
theorem flat_part (ps : List (List UInt8)) (k j : Nat) : ((ps.drop k).take j).flatten.length ≤ ps.flatten.length := by
  have e := congrArg (fun x => x.flatten.length) (List.take_append_drop k ps)
  have e2 := congrArg (fun x => x.flatten.length) (List.take_append_drop j (ps.drop k))
  simp only [List.flatten_append, List.length_append] at e e2
  omega
theorem grp_step (ps : List (List UInt8)) (k j : Nat) (hk : k < ps.length) (hkj : k < j) (hc : ct ps[k] = false) (hT : ∀ p ∈ (ps.drop (k + 1)).take (j - (k + 1)), ct p = true)
    (hend : ∀ p, (ps.drop j).head? = some p → ct p = false) (hchk : chk (gs [] 0 (ps.take k)) = none) (L : List UInt8) (hL : L = ps[k] ++ ((ps.drop (k + 1)).take (j - (k + 1))).flatMap List.tail) :
    (ps.drop k).take (j - k) = ps[k] :: (ps.drop (k + 1)).take (j - (k + 1)) ∧ gs [] 0 (ps.take j) = gs [] 0 (ps.take k) ++ [(L, k + 1)] ∧
    (chk [(L, k + 1)] = none → chk (gs [] 0 (ps.take j)) = none) ∧ (∀ x, chk [(L, k + 1)] = some x → chk (gs [] 0 ps) = some x) := by
  have e1 : (ps.drop k).take (j - k) = ps[k] :: (ps.drop (k + 1)).take (j - (k + 1)) := by
    rw [List.drop_eq_getElem_cons hk, show j - k = (j - (k + 1)) + 1 by omega, List.take_succ_cons]
  have e2 : ps.take j = ps.take k ++ (ps[k] :: (ps.drop (k + 1)).take (j - (k + 1))) := by
    rw [← e1]
    conv => lhs; rw [show j = k + (j - k) by omega]
    rw [List.take_add]
  have hl : (ps.take k).length = k := by rw [List.length_take]; omega
  have e3 : gs [] 0 (ps.take j) = gs [] 0 (ps.take k) ++ [(L, k + 1)] := by
    rw [e2, gs_append, hl, Nat.zero_add, gs_line _ _ _ _ hc (List.all_eq_true.2 hT), hL]
  refine ⟨e1, e3, fun h => ?_, fun x h => ?_⟩
  · rw [e3, chk_append _ _ hchk]; exact h
  · have e4 : gs [] 0 ps = gs (gs [] 0 (ps.take j)) (0 + (ps.take j).length) (ps.drop j) := by
      rw [← gs_append, List.take_append_drop]
    obtain ⟨r, hr⟩ := gs_more (ps.drop j) (gs [] 0 (ps.take j)) (0 + (ps.take j).length) hend
    rw [e4, hr]
    refine chk_err _ _ x ?_
    rw [e3, chk_append _ _ hchk]; exact h
end Fd
theorem Strs.capd {w : World} {B : Nat} {A : Option Addr} {n : Nat} {ls : List (List UInt8)} (h : Strs w B A n ls) {k j : Nat} (hk : k < j) (hj : j ≤ n) :
    ∃ ad : Addr, A = some ad ∧ ad.block < B ∧ Strs w B (some (ad.add k)) (j - k) ((ls.drop k).take (j - k)) := by
  obtain ⟨ad, rfl, hb, hc⟩ := h.2 (by omega)
  refine ⟨ad, rfl, hb, ⟨by rw [List.length_take, List.length_drop, h.1]; omega, fun _ => ⟨ad.add k, rfl, by rw [add_block]; exact hb, fun i u hu => ?_⟩⟩⟩
  rw [add_add]
  refine hc (k + i) u ?_
  rw [List.getElem?_take] at hu
  split at hu
  · rw [List.getElem?_drop] at hu; exact hu
  · cases hu

set_option maxHeartbeats 8000000 in
set_option maxRecDepth 100000 in
theorem unfold_any (s : ByteArray) (w : World) (ht : Tab w) (hs : s.size ≤ 1000000) :
    Calls Tryd.prog 11 #[.string s] w fun e w' => ∃ A n c, e = .returned (.tuple #[.slice A n c, .int .i64 ((Fd.unf s.data.toList).2.1 : Int), .int .i64 (Fd.unf s.data.toList).2.2]) ∧ OwnV w' w.heap.size 9 A n c (sc (Fd.unf s.data.toList).1) ∧ Gr w w' := by
  obtain ⟨U, hU⟩ : ∃ U, Fd.unf s.data.toList = U := ⟨_, rfl⟩
  rw [hU]
  have HU := Lib.hid hU
  have hsz := Lib.size_eq s
  have hlt0 := ht.lt
  by_cases hl : 20000 < s.size
  · have hUe := Fd.unf_long s.data.toList (by omega)
    rw [hU] at hUe
    subst hUe
    clear hU HU hsz
    go_enter Tryd.func11, Tryd.ntmps11
    go_wp2
    go_ret3
    exact ⟨_, _, _, rfl, OwnV.nil _ _ _, Gr.refl _⟩
  · have cS := split_any s w (by omega)
    obtain ⟨hne, hfl⟩ := Fd.sp_props 0 s.data.toList
    have hhd := Fd.sp_head s.data.toList
    have herr := Fd.sp_err 0 s.data.toList
    have hspl := Fd.sp_len 0 s.data.toList
    rw [← hsz] at hfl hspl
    obtain ⟨ps, hps⟩ : ∃ ps, (Fd.sp 0 s.data.toList).2 = ps := ⟨_, rfl⟩
    obtain ⟨iv, hiv⟩ : ∃ iv, (Fd.sp 0 s.data.toList).1 = iv := ⟨_, rfl⟩
    have hspe : Fd.sp 0 s.data.toList = (iv, ps) := by rw [← hps, ← hiv]
    rw [hspe] at cS hne hfl hhd herr hspl
    simp only at cS hne hfl hhd herr hspl
    have HSP := Lib.hid hspe
    have hlen : ¬ 20000 < s.data.toList.length := by omega
    have HPS := Lib.hid (And.intro hne (And.intro hfl (And.intro hhd (And.intro herr hlen))))
    have hivb := hspl.2
    have hpsb := hspl.1
    clear hU hps hiv hspe hne hfl hhd herr hspl hlen hsz
    by_cases hiv0 : iv = 0
    · subst hiv0
      go_enter Tryd.func11, Tryd.ntmps11
      go_wp2_with (go_at_call 18; refine cS.mono ?_; rintro e w1 ⟨PA, pn, pc, rfl, hownp, hg1⟩)
      have hpn : ps.length = pn := by simpa [sc] using hownp.len
      have hcap := hownp.cap
      have hSp := Strs.of_own hownp
      have HPN := Lib.hid hpn
      rw [hpn] at hpsb
      have ht1 := ht.keep hg1
      have hlt1 := ht1.lt
      clear hpn
      go_loopg [7, 8] pn (fun g v7 v8 wx => ∃ A2 n2 c2, ∃ k : Nat, v7 = .slice A2 n2 c2 ∧ v8 = .int .i64 (k : Int) ∧ k + g = pn ∧ n2 ≤ k ∧ Below w1.heap.size w1 wx ∧ w1.heap.size ≤ wx.heap.size ∧ Tab wx ∧ OwnV wx w1.heap.size 9 A2 n2 c2 (sc ((Fd.gs [] 0 (ps.take k)).map Prod.fst)) ∧ Hid (Fd.chk (Fd.gs [] 0 (ps.take k)) = none ∧ ∀ p, (ps.drop k).head? = some p → Fd.ct p = false))
      case atStart => exact ⟨_, _, _, 0, rfl, rfl, by omega, by omega, Below.refl _ _, Nat.le_refl _, ht1, OwnV.nil _ _ _, Lib.hid ⟨rfl, fun p hp => HPS.out.2.2.1 p (by simpa using hp)⟩⟩
      case round =>
        obtain ⟨A2, n2, c2, k, rfl, rfl, hkg, hn2k, hb2, hsz2, ht2, hown2, HC⟩ := hrel
        have HG := Lib.hid hkg
        clear hkg
        by_cases hk : k < pn
        · have hSr := hSp.keep hb2
          obtain ⟨ad, hk', rfl, hbl, hcellk⟩ := hSr.at_ hk
          go_wp2
          go_loopg [9] (pn - (k + 1)) (fun g v wx => ∃ j : Nat, v = .int .i64 (j : Int) ∧ j + g = pn ∧ k < j ∧ wr = wx ∧ Hid (∀ p ∈ (ps.drop (k + 1)).take (j - (k + 1)), Fd.ct p = true))
          case atStart => exact ⟨k + 1, by go_num, by omega, by omega, rfl, Lib.hid (by simp)⟩
          case round =>
            obtain ⟨j, rfl, hjg, hkj, rfl, HT⟩ := hrel
            have HJ := Lib.hid hjg
            have hjp : j ≤ pn := by omega
            clear hjg
            have hstep : (∃ hj : j < ps.length, Fd.ct ps[j] = true) ∨ (∀ p, (ps.drop j).head? = some p → Fd.ct p = false) := by
              rcases Nat.lt_or_ge j ps.length with hj | hj
              · cases hc : Fd.ct ps[j]
                · right
                  intro p hp
                  rw [List.drop_eq_getElem_cons hj] at hp
                  cases hp; exact hc
                · exact .inl ⟨hj, hc⟩
              · right
                intro p hp
                rw [List.drop_eq_nil_of_le hj] at hp; cases hp
            rcases hstep with ⟨hj, hct⟩ | hend
            · have hjn : j < pn := by rw [← HPN.out]; exact hj
              obtain ⟨_, hj', e0, _, hcellj⟩ := hSr.at_ hjn
              obtain rfl := Option.some.inj e0
              have hpe := HPS.out.1 _ (List.getElem_mem hj')
              have cK := fun w => continues_any ⟨ps[j].toArray⟩ w (by rw [size_mk]; exact List.length_pos_iff.2 hpe)
              have e1 : (ByteArray.mk ps[j].toArray).data.toList = ps[j] := rfl
              rw [e1, hct] at cK
              have HCT := Lib.hid hct
              clear hct e0 hpe e1
              generalize (ByteArray.mk ps[j].toArray) = pj at *
              go_wp2_with (go_at_call 19; refine (cK _).mono ?_; rintro e w' ⟨rfl, rfl⟩)
              go_roundg (pn - (j + 1))
              case measure => have := HJ.out; omega
              case rel =>
                refine ⟨j + 1, by go_num, by omega, by omega, rfl, Lib.hid ?_⟩
                intro p hp
                rw [show j + 1 - (k + 1) = (j - (k + 1)) + 1 by omega, List.take_succ_eq_append_getElem (by rw [List.length_drop]; omega)] at hp
                rcases List.mem_append.1 hp with hp | hp
                · exact HT.out p hp
                · simp only [List.mem_singleton, List.getElem_drop] at hp
                  subst hp
                  have := HCT.out
                  simp only [show k + 1 + (j - (k + 1)) = j by omega]
                  exact this
            · have hck : Fd.ct ps[k] = false := HC.out.2 _ (by rw [List.drop_eq_getElem_cons hk']; rfl)
              obtain ⟨L, hL⟩ : ∃ L, L = ps[k] ++ ((ps.drop (k + 1)).take (j - (k + 1))).flatMap List.tail := ⟨_, rfl⟩
              obtain ⟨g1, g2, g3, g4⟩ := Fd.grp_step ps k j hk' hkj hck HT.out hend HC.out.1 L hL
              obtain ⟨_, e0, _, hSub⟩ := hSr.capd hkj hjp
              obtain rfl := Option.some.inj e0
              rw [g1] at hSub
              have hfk : (ps[k] :: (ps.drop (k + 1)).take (j - (k + 1))).flatten.length ≤ s.size := by rw [← g1]; exact Nat.le_trans (Fd.flat_part ps k (j - k)) HPS.out.2.1
              rw [List.flatten_cons, List.length_append] at hfk
              have cJ := join_any (ad.add k) (j - k) (pc - k) ps[k] ((ps.drop (k + 1)).take (j - (k + 1))) wr (hSub.more hsz2) (by omega)
                (fun q hq => HPS.out.1 q (List.mem_of_mem_drop (List.mem_of_mem_take hq))) (by omega) (fun i _ => by
                  have h1 := Fd.tail_flat (((ps.drop (k + 1)).take (j - (k + 1))).take i)
                  have h2 := Fd.flat_part ((ps.drop (k + 1)).take (j - (k + 1))) 0 i
                  rw [List.drop_zero] at h2
                  omega)
              rw [← hL] at cJ
              have hLl : L.length ≤ s.size := by
                have h1 := Fd.tail_flat ((ps.drop (k + 1)).take (j - (k + 1)))
                rw [hL, List.length_append]; omega
              have hLz : (ByteArray.mk L.toArray).size = L.length := size_mk L
              have cV := fun w ht => valid_any ⟨L.toArray⟩ w ht (by rw [hLz]; omega)
              have e5 : (ByteArray.mk L.toArray).data.toList = L := rfl
              rw [e5] at cV
              have HEND := Lib.hid hend
              have HLL : Hid (sc [L] = [Value.string ⟨L.toArray⟩]) := Lib.hid rfl
              have HQ := Lib.hid (And.intro g2 (And.intro g3 (And.intro g4 hLz)))
              rw [← hLz] at hLl
              clear g1 g2 g3 g4 hck hL e0 hSub hfk e5 hLz
              generalize (ByteArray.mk L.toArray) = lb at *
              obtain ⟨V, hV⟩ : ∃ V, Lib.validD L = V := ⟨_, rfl⟩
              rw [hV] at cV
              have HV := Lib.hid hV
              clear hV
              rcases Nat.lt_or_ge j pn with hjn | hjn
              · obtain ⟨_, hj', e0, _, hcellj⟩ := hSr.at_ hjn
                obtain rfl := Option.some.inj e0
                have hpe := HPS.out.1 _ (List.getElem_mem hj')
                have cK := fun w => continues_any ⟨ps[j].toArray⟩ w (by rw [size_mk]; exact List.length_pos_iff.2 hpe)
                have e1 : (ByteArray.mk ps[j].toArray).data.toList = ps[j] := rfl
                rw [e1, hend ps[j] (by rw [List.drop_eq_getElem_cons hj']; rfl)] at cK
                clear e0 hpe e1
                generalize (ByteArray.mk ps[j].toArray) = pj at *
                go_wp2_with (go_at_call 19; refine (cK _).mono ?_; rintro e w' ⟨rfl, rfl⟩)
                refine cJ.mono ?_
                rintro e w3 ⟨rfl, hg3⟩
                cases V
                · go_wp2_with (go_at_call 21; refine (cV _ (ht2.keep hg3)).mono ?_; rintro e w4 ⟨rfl, hg4⟩)
                  have hUe := Fd.unf_err s.data.toList HPS.out.2.2.2.2 ps HSP.out (k + 1, 3) (HQ.out.2.2.1 _ (by rw [Fd.chk_one, if_pos HV.out]))
                  rw [HU.out] at hUe
                  subst hUe
                  go_ret3
                  exact ⟨_, _, _, by simp, OwnV.nil _ _ _, ⟨hg1.below.trans ((hb2.trans ((hg3.trans hg4).low hsz2)).mono hg1.lt)⟩⟩
                · by_cases hL2 : 2000 < lb.size
                  · have hUe := Fd.unf_err s.data.toList HPS.out.2.2.2.2 ps HSP.out (k + 1, 4) (HQ.out.2.2.1 _ (by rw [Fd.chk_one, if_neg (by simp [HV.out]), if_pos (by rw [← HQ.out.2.2.2]; exact hL2)]))
                    rw [HU.out] at hUe
                    subst hUe
                    clear HU
                    go_wp2_with (go_at_call 21; refine (cV _ (ht2.keep hg3)).mono ?_; rintro e w4 ⟨rfl, hg4⟩)
                    go_ret3
                    exact ⟨_, _, _, by simp, OwnV.nil _ _ _, ⟨hg1.below.trans ((hb2.trans ((hg3.trans hg4).low hsz2)).mono hg1.lt)⟩⟩
                  · go_wp2_with (first
                      | (go_at_call 21; refine (cV _ (ht2.keep hg3)).mono ?_; rintro e w4 ⟨rfl, hg4⟩)
                      | (at_builtin; refine ap_lit w4 rfl (.tmp 56) (.tmp 58) 22 9 (.string ⟨#[]⟩) 16 Tryd.underlying22 info_str rfl (by omega) rfl w1.heap.size A2 n2 c2 _ [.string lb] rfl (hown2.gr (hg3.trans hg4)) 1 1 rfl rfl (by intro u hu; simp at hu; subst hu; rfl) (by omega) (by have := (hg3.trans hg4).lt; omega) ?_; intro A5 c5 w5 hown5 hb5))
                    go_roundg (pn - j)
                    case measure => have := HG.out; omega
                    case rel =>
                      have hbb := ((hg3.trans hg4).low hsz2).trans hb5
                      refine ⟨A5, _, c5, j, rfl, rfl, by omega, by omega, hb2.trans hbb, by have := hbb.size; omega, ht2.low hbb hlt1.1 hlt1.2, ?_, Lib.hid ⟨?_, HEND.out⟩⟩
                      · rw [HQ.out.1, List.map_append, sc_append]
                        have e6 : sc (List.map Prod.fst [(L, k + 1)]) = [.string lb] := HLL.out
                        rw [e6]
                        exact hown5
                      · refine HQ.out.2.1 ?_
                        rw [Fd.chk_one, if_neg (by simp [HV.out]), if_neg (by rw [← HQ.out.2.2.2]; exact hL2)]
              · go_wp2_with fail
                refine cJ.mono ?_
                rintro e w3 ⟨rfl, hg3⟩
                cases V
                · go_wp2_with (go_at_call 21; refine (cV _ (ht2.keep hg3)).mono ?_; rintro e w4 ⟨rfl, hg4⟩)
                  have hUe := Fd.unf_err s.data.toList HPS.out.2.2.2.2 ps HSP.out (k + 1, 3) (HQ.out.2.2.1 _ (by rw [Fd.chk_one, if_pos HV.out]))
                  rw [HU.out] at hUe
                  subst hUe
                  go_ret3
                  exact ⟨_, _, _, by simp, OwnV.nil _ _ _, ⟨hg1.below.trans ((hb2.trans ((hg3.trans hg4).low hsz2)).mono hg1.lt)⟩⟩
                · by_cases hL2 : 2000 < lb.size
                  · have hUe := Fd.unf_err s.data.toList HPS.out.2.2.2.2 ps HSP.out (k + 1, 4) (HQ.out.2.2.1 _ (by rw [Fd.chk_one, if_neg (by simp [HV.out]), if_pos (by rw [← HQ.out.2.2.2]; exact hL2)]))
                    rw [HU.out] at hUe
                    subst hUe
                    clear HU
                    go_wp2_with (go_at_call 21; refine (cV _ (ht2.keep hg3)).mono ?_; rintro e w4 ⟨rfl, hg4⟩)
                    go_ret3
                    exact ⟨_, _, _, by simp, OwnV.nil _ _ _, ⟨hg1.below.trans ((hb2.trans ((hg3.trans hg4).low hsz2)).mono hg1.lt)⟩⟩
                  · go_wp2_with (first
                      | (go_at_call 21; refine (cV _ (ht2.keep hg3)).mono ?_; rintro e w4 ⟨rfl, hg4⟩)
                      | (at_builtin; refine ap_lit w4 rfl (.tmp 56) (.tmp 58) 22 9 (.string ⟨#[]⟩) 16 Tryd.underlying22 info_str rfl (by omega) rfl w1.heap.size A2 n2 c2 _ [.string lb] rfl (hown2.gr (hg3.trans hg4)) 1 1 rfl rfl (by intro u hu; simp at hu; subst hu; rfl) (by omega) (by have := (hg3.trans hg4).lt; omega) ?_; intro A5 c5 w5 hown5 hb5))
                    go_roundg (pn - j)
                    case measure => have := HG.out; omega
                    case rel =>
                      have hbb := ((hg3.trans hg4).low hsz2).trans hb5
                      refine ⟨A5, _, c5, j, rfl, rfl, by omega, by omega, hb2.trans hbb, by have := hbb.size; omega, ht2.low hbb hlt1.1 hlt1.2, ?_, Lib.hid ⟨?_, HEND.out⟩⟩
                      · rw [HQ.out.1, List.map_append, sc_append]
                        have e6 : sc (List.map Prod.fst [(L, k + 1)]) = [.string lb] := HLL.out
                        rw [e6]
                        exact hown5
                      · refine HQ.out.2.1 ?_
                        rw [Fd.chk_one, if_neg (by simp [HV.out]), if_neg (by rw [← HQ.out.2.2.2]; exact hL2)]
        · obtain rfl : k = pn := by have := HG.out; omega
          have e1 : ps.take k = ps := List.take_of_length_le (by rw [HPN.out]; exact Nat.le_refl _)
          rw [e1] at hown2 HC
          have hUe := Fd.unf_ok s.data.toList HPS.out.2.2.2.2 ps HSP.out HC.out.1
          rw [HU.out] at hUe
          subst hUe
          clear e1 HU
          go_wp2
          go_ret3
          refine ⟨_, _, _, rfl, ?_, ⟨hg1.below.trans (hb2.mono hg1.lt)⟩⟩
          exact World.ownsRow.mono hown2 hg1.lt
    · have hpse : ps = [] := HPS.out.2.2.2.1 hiv0
      subst hpse
      have hUe := Fd.unf_bad s.data.toList HPS.out.2.2.2.2 iv HSP.out hiv0
      rw [HU.out] at hUe
      subst hUe
      have hivn : ((iv : Int) == 0) = false := by simpa using hiv0
      clear HU
      go_enter Tryd.func11, Tryd.ntmps11
      go_wp2_with (go_at_call 18; refine cS.mono ?_; rintro e w1 ⟨PA, pn, pc, rfl, hownp, hg1⟩)
      go_ret3
      exact ⟨_, _, _, rfl, OwnV.nil _ _ _, hg1⟩
end Go.Proofs.YtbdfkpgcjdhcdaaDoor
