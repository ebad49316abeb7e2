/- What a reader's param returns: its values. -/
import Derived.Test.YtpcmhaflmpcicaaDoorLnPar
namespace Go.Proofs.YtpcmhaflmpcicaaDoor
open Go.RowKit

theorem Tab.below {w w' : World} {B : Nat} (h : Tab w) (hg : Below B w w') (hB : 0 < B ∧ 1 < B) : Tab w' := h.low hg hB.1 hB.2
set_option maxHeartbeats 8000000 in
set_option maxRecDepth 100000 in
theorem param_vals (b : Nat) (s : ByteArray) (i : Nat) (A0 : Option Addr) (n0 c0 : Nat) (ps : List Ln.Par) (w : World) (h : RB w b s i) (ht : Tab w) (hbh : Hi b) (hi : i ≤ s.size) (hs : s.size ≤ 400000) (hP : ∀ w', Mv b w w' → Pars w' w'.heap.size A0 n0 ps) (hl : ps.length = n0) (hn0 : n0 < 60)
    (hn : (Ln.nm 60 (s.data.toList.drop i)).1 ≠ []) (h61 : (Ln.nm 60 (s.data.toList.drop i)).2.head? = some 61) (hx : (Ln.nm 60 (s.data.toList.drop i)).1 ∉ ps.map Prod.fst) :
    Calls Tryd.prog 43 #[.pointer (some ⟨b, 0, none⟩), .slice A0 n0 c0] w (PaPost b s i (ps.map Prod.fst) w) := by
  have HP := Lib.hid (Ln.pa_vals (r := s.data.toList.drop i) (before := ps.map Prod.fst) hn h61 (by rw [List.length_map]; omega) hx)
  have hbl := h.lt
  have hg0 : Gr w (w.alloc (.cells #[.string ⟨#[]⟩, .slice none 0 0] 49)) := (Gr.refl w).allocO _
  have hr0 := h.keep hg0
  have cN := name_yes b s i _ hr0 hi hs hn
  have hx4 := Bx2.new w (.string ⟨#[]⟩) (.slice none 0 0) 49
  obtain ⟨c1, c2, c3⟩ := hr0
  have H61 := Lib.hid h61
  have hq60 : ((n0 : Int) == 60) = false := by rw [beq_eq_false_iff_ne]; omega
  have HI := Lib.hid hx
  have hgl := ht.lt
  clear h61 hn hx hl
  generalize Ln.nm 60 (s.data.toList.drop i) = N at *
  go_enter Tryd.func43, Tryd.ntmps43
  go_wp2_with fail
  refine cN.mono ?_
  rintro e w1 ⟨rfl, hm1, j, hr1, hij, hj, hd⟩
  have hd61 : (s.data.toList.drop j).head? = some 61 := by rw [hd]; exact H61.out
  have hjl := hd_lt hd61
  have cT := take_t b s j 61 61 rfl w1 hr1 hs hd61
  have hx1 := hx4.mv hm1 (by omega)
  have hm2 := (hg0.mv b).trans hm1
  have HD := Lib.hid hd
  clear c1 c2 c3 hx4 hd hd61
  go_wp2_with fail
  refine cT.mono ?_
  rintro e w2 ⟨rfl, hmt, hr2⟩
  have hx2 := hx1.mv hmt (by omega)
  have hm3 := hm2.trans hmt
  clear hx1 hr1 hm2
  have cI := (index_any ⟨N.1.toArray⟩ A0 n0 c0 ps w2 (hP w2 hm3) (by omega)).mono (R' := fun e w' => ∃ v : Int, e = .returned (.int .i64 v) ∧ v < 0 ∧ Gr w2 w') (fun e w' ⟨v, h1, h2, h3⟩ => ⟨v, h1, by
    have := h2.neg
    rw [show (ps.map Prod.fst).contains (ByteArray.mk N.1.toArray).data.toList = false by simpa using HI.out] at this
    exact Int.not_le.1 (of_decide_eq_false this), h3⟩)
  go_wp2_with fail
  refine cI.mono ?_
  rintro e w3 ⟨v, rfl, hv, hg3⟩
  have hr3 := hr2.keep hg3
  have hx3 := hx2.gr hg3
  have hm4 := hm3.trans (hg3.mv b)
  have ht3 := ht.mv hm4 hbh
  have hd2 : s.data.toList.drop (j + 1) = N.2.tail := by rw [← HD.out, List.tail_drop]
  obtain ⟨V, hV⟩ : ∃ V, Ln.vs (s.data.toList.drop (j + 1)) [] = V := ⟨_, rfl⟩
  have hpa : Ln.pa (s.data.toList.drop i) (ps.map Prod.fst) = V.map fun x => ((N.1, x.1), x.2) := by rw [HP.out, ← hd2, hV]
  have HNo : Hid (V = none → Ln.pa (s.data.toList.drop i) (ps.map Prod.fst) = none) := Lib.hid (fun e => by rw [hpa, e]; rfl)
  have HYes : Hid (∀ x, V = some x → Ln.pa (s.data.toList.drop i) (ps.map Prod.fst) = some ((N.1, x.1), x.2)) := Lib.hid (fun x e => by rw [hpa, e]; rfl)
  have HV0 := Lib.hid hV
  have hsz3 : w.heap.size + 1 ≤ w3.heap.size := hx3.lt
  clear hpa hV hd2 HP HI H61 hr2 hx2 hm3 cI cT cN hmt hm1 hg0 hP h hg3 ht
  go_wp2
  go_loopg [9] (s.size + 1 - (j + 1)) (fun g v9 wx => ∃ A n c acc, ∃ k : Nat, v9 = .slice A n c ∧ n < 60 ∧ k ≤ s.size ∧ k + g = s.size + 1 ∧ OwnV wx (w.heap.size + 1) 9 A n c (sc acc) ∧ Mv b w wx ∧ w.heap.size + 1 ≤ wx.heap.size ∧ RB wx b s k ∧ Bx2 wx w.heap.size (.string ⟨#[]⟩) (.slice none 0 0) ∧ Tab wx ∧ Hid (acc.length = n ∧ Ln.vs (s.data.toList.drop k) acc = V))
  case atStart => exact ⟨_, _, _, [], j + 1, rfl, by omega, by omega, by omega, OwnV.nil _ _ _, hm4, hsz3, hr3, hx3, ht3, Lib.hid ⟨rfl, HV0.out⟩⟩
  case round =>
    obtain ⟨A, n, c, acc, k, rfl, hn, hk, hkg, hown, hmv, hsz, hrb, hbx, htx, HA⟩ := hrel
    have HG := Lib.hid hkg
    clear hkg hm4 hsz3 hr3 hx3 ht3 HV0
    cases hsv : Ln.sv (s.data.toList.drop k) with
    | none =>
      have HV : Hid (none = V) := Lib.hid (by rw [← HA.out.2, Ln.vs_none hsv])
      have cV := rvalue_none b s k wr hrb hk hs hsv
      clear hsv
      go_wp2_with fail
      refine cV.mono ?_
      rintro e w4 ⟨rfl, hm5, j5, hr5⟩
      have hbx5 := hbx.mv hm5 (by omega)
      have hm6 := hmv.trans hm5
      have HX := Lib.hid hbx5
      obtain ⟨x0, x1, f0, f1⟩ := hbx5
      go_wp2
      obtain ⟨y0, y1⟩ := HX.out.set2 (.string ⟨#[]⟩) (.slice none 0 0)
      have hbw := below_set2 (w := w4) (Nat.le_refl w.heap.size) (.string ⟨#[]⟩) (.slice none 0 0)
      generalize World.setCell (World.setCell _ _ _) _ _ = W at *
      exact bodyPost_ret (v := .tuple #[.agg #[.string ⟨#[]⟩, .slice none 0 0], .int .i64 5]) (by simp [results, Tryd.results43, go_sem, y0, y1]) rfl (pa_err (HNo.out (HV.out ▸ rfl)) 5 rfl (hm6.below hbw) (hr5.below hbw hbl))
    | some x =>
      by_cases hE : Es.vlE x.1 = 0
      · obtain ⟨q1, q2, q3⟩ := raw_ext s k x hsv
        have cV := rvalue_yes b s k wr hrb htx hbh hk hs x hsv hE
        by_cases h44 : x.2.head? = some 44
        · by_cases h60 : n + 1 = 60
          · have HV : Hid (none = V) := Lib.hid (by rw [← HA.out.2, Ln.vs_many hsv hE h44 (by rw [HA.out.1]; exact h60)])
            have h60i : ((n : Int) + 1 == 60) = true := by rw [beq_iff_eq]; omega
            have H44 : Hid ((s.data.toList.drop (k + x.1.length)).head? = some 44) := Lib.hid (by rw [q3]; exact h44)
            clear hsv hE q1 q3 h44 h60
            generalize k + x.1.length = k1 at *
            generalize Es.vlT x.1 = T at *
            go_wp2_with fail
            refine cV.mono ?_
            rintro e w4 ⟨rfl, hm5, hr5⟩
            have hown5 := hown.mv hm5 (by omega)
            have hbx5 := hbx.mv hm5 (by omega)
            have hm6 := hmv.trans hm5
            have hsz5 : w.heap.size + 1 ≤ w4.heap.size := by have := hm5.lt; omega
            clear hown hbx hrb hmv
            go_wp2_with (at_builtin; refine ap_str w4 rfl (.tmp 52) (.tmp 54) rfl (w.heap.size + 1) A n c acc rfl hown5 T rfl (by omega) hsz5 ?_; intro A6 c6 w6 hown6 hb6)
            have hr6 := hr5.below hb6 (by omega)
            have hbx6 := hbx5.below hb6 (by omega)
            have hm7 := hm6.below (hb6.mono (by omega))
            have cT := take_t b s k1 44 44 rfl w6 hr6 hs H44.out
            clear hr5 hbx5 hm6 hown5
            go_wp2_with fail
            refine cT.mono ?_
            rintro e w7 ⟨rfl, hm8, hr7⟩
            have hbx7 := (hbx6.mv hm8 (by omega)).box (k := b) (by omega) (.int .i64 (i : Int))
            have hm9 := (hm7.trans hm8).trans (Mv.set b w7 1 (.int .i64 (i : Int)))
            have hr8 := hr7.set i
            have HX := Lib.hid hbx7
            obtain ⟨z0, z1, z2⟩ := hr7
            obtain ⟨x0, x1, f0, f1⟩ := hbx7
            go_wp2
            obtain ⟨y0, y1⟩ := HX.out.set2 (.string ⟨#[]⟩) (.slice none 0 0)
            have hbw := below_set2 (w := (w7.setCell ⟨b, 1, none⟩ (.int .i64 (i : Int)))) (Nat.le_refl w.heap.size) (.string ⟨#[]⟩) (.slice none 0 0)
            generalize World.setCell (World.setCell (World.setCell _ _ _) _ _) _ _ = W at *
            exact bodyPost_ret (v := .tuple #[.agg #[.string ⟨#[]⟩, .slice none 0 0], .int .i64 9]) (by simp [results, Tryd.results43, go_sem, y0, y1]) rfl (pa_err (HNo.out (HV.out ▸ rfl)) 9 rfl (hm9.below hbw) (hr8.below hbw hbl))
          · have HV : Hid (Ln.vs (s.data.toList.drop (k + x.1.length + 1)) (acc ++ [Es.vlT x.1]) = V) := Lib.hid (by rw [← HA.out.2, Ln.vs_more hsv hE h44 (by rw [HA.out.1]; exact h60), ← q3, List.tail_drop])
            have h60i : ((n : Int) + 1 == 60) = false := by rw [beq_eq_false_iff_ne]; omega
            have H44 : Hid ((s.data.toList.drop (k + x.1.length)).head? = some 44) := Lib.hid (by rw [q3]; exact h44)
            have hkk : k ≤ k + x.1.length := by omega
            clear hsv hE q1 q3 h44
            generalize k + x.1.length = k1 at *
            generalize Es.vlT x.1 = T at *
            have hk1 := hd_lt H44.out
            go_wp2_with fail
            refine cV.mono ?_
            rintro e w4 ⟨rfl, hm5, hr5⟩
            have hown5 := hown.mv hm5 (by omega)
            have hbx5 := hbx.mv hm5 (by omega)
            have hm6 := hmv.trans hm5
            have ht5 := htx.mv hm5 hbh
            have hsz5 : w.heap.size + 1 ≤ w4.heap.size := by have := hm5.lt; omega
            clear hown hbx hrb hmv htx
            go_wp2_with (at_builtin; refine ap_str w4 rfl (.tmp 52) (.tmp 54) rfl (w.heap.size + 1) A n c acc rfl hown5 T rfl (by omega) hsz5 ?_; intro A6 c6 w6 hown6 hb6)
            have hr6 := hr5.below hb6 (by omega)
            have hbx6 := hbx5.below hb6 (by omega)
            have hm7 := hm6.below (hb6.mono (by omega))
            have ht6 := ht5.below hb6 ⟨by omega, by omega⟩
            have hsz6 : w.heap.size + 1 ≤ w6.heap.size := by have := hb6.size; omega
            have cT := take_t b s k1 44 44 rfl w6 hr6 hs H44.out
            clear hr5 hbx5 hm6 hown5 ht5
            go_wp2_with fail
            refine cT.mono ?_
            rintro e w7 ⟨rfl, hm8, hr7⟩
            have hbx7 := hbx6.mv hm8 (by omega)
            have hm9 := hm7.trans hm8
            have ht7 := ht6.mv hm8 hbh
            have hown7 := hown6.mv hm8 (by omega)
            have hsz7 : w.heap.size + 1 ≤ w7.heap.size := by have := hm8.lt; omega
            go_wp2
            go_roundg (s.size + 1 - (k1 + 1))
            case measure => have := HG.out; omega
            case rel => exact ⟨_, n + 1, _, acc ++ [T], k1 + 1, rfl, by omega, by omega, by omega, hown7, hm9, hsz7, hr7, hbx7, ht7, Lib.hid ⟨by rw [List.length_append, HA.out.1]; rfl, HV.out⟩⟩
        · have HV : Hid (V = some (acc ++ [Es.vlT x.1], x.2)) := Lib.hid (by rw [← HA.out.2, Ln.vs_end hsv hE h44])
          have H44 : Hid ((s.data.toList.drop (k + x.1.length)).head? ≠ some 44) := Lib.hid (by rw [q3]; exact h44)
          have HQ := Lib.hid q3
          clear hsv hE q1 q3 h44
          generalize k + x.1.length = k1 at *
          generalize Es.vlT x.1 = T at *
          go_wp2_with fail
          refine cV.mono ?_
          rintro e w4 ⟨rfl, hm5, hr5⟩
          have hown5 := hown.mv hm5 (by omega)
          have hbx5 := hbx.mv hm5 (by omega)
          have hm6 := hmv.trans hm5
          have hsz5 : w.heap.size + 1 ≤ w4.heap.size := by have := hm5.lt; omega
          clear hown hbx hrb hmv htx
          go_wp2_with (at_builtin; refine ap_str w4 rfl (.tmp 52) (.tmp 54) rfl (w.heap.size + 1) A n c acc rfl hown5 T rfl (by omega) hsz5 ?_; intro A6 c6 w6 hown6 hb6)
          have hr6 := hr5.below hb6 (by omega)
          have hbx6 := hbx5.below hb6 (by omega)
          have hm7 := hm6.below (hb6.mono (by omega))
          have cT := take_f b s k1 44 44 rfl w6 hr6 q2 H44.out
          clear hr5 hbx5 hm6 hown5
          go_wp2_with fail
          refine cT.mono ?_
          rintro e w7 ⟨rfl, hg8⟩
          have hr7 := hr6.keep hg8
          have hbx7 := hbx6.gr hg8
          have hm9 := hm7.trans (hg8.mv b)
          have hown7 := hown6.gr hg8
          have HX := Lib.hid hbx7
          obtain ⟨x0, x1, f0, f1⟩ := hbx7
          go_wp2
          obtain ⟨y0, y1⟩ := HX.out.set2 (.string ⟨N.1.toArray⟩) (.slice A6 (n + 1) c6)
          have hbw := below_set2 (w := w7) (Nat.le_refl w.heap.size) (.string ⟨N.1.toArray⟩) (.slice A6 (n + 1) c6)
          have hown8 := own_set2 hown7 (b := w.heap.size) (by omega) (.string ⟨N.1.toArray⟩) (.slice A6 (n + 1) c6)
          generalize World.setCell (World.setCell _ _ _) _ _ = W at *
          exact bodyPost_ret (v := .tuple #[.agg #[.string ⟨N.1.toArray⟩, .slice A6 (n + 1) c6], .int .i64 0]) (by simp [results, Tryd.results43, go_sem, y0, y1]) rfl
            (.inl ⟨_, _, A6, n + 1, c6, k1, HYes.out _ HV.out, rfl, hm9.below hbw, hr7.below hbw hbl, q2, HQ.out, Strs.of_own hown8, fun h0 ad ha => by have := Strs.fresh hown8 h0 ad ha; omega⟩)
      · have HV : Hid (none = V) := Lib.hid (by rw [← HA.out.2, Ln.vs_bad hsv hE])
        have cV := rvalue_bad b s k wr hrb htx hbh hk hs x hsv hE
        clear hsv hE
        go_wp2_with fail
        refine cV.mono ?_
        rintro e w4 ⟨rfl, hm5, hr5⟩
        have hbx5 := hbx.mv hm5 (by omega)
        have hm6 := hmv.trans hm5
        have HX := Lib.hid hbx5
        obtain ⟨x0, x1, f0, f1⟩ := hbx5
        go_wp2
        obtain ⟨y0, y1⟩ := HX.out.set2 (.string ⟨#[]⟩) (.slice none 0 0)
        have hbw := below_set2 (w := w4) (Nat.le_refl w.heap.size) (.string ⟨#[]⟩) (.slice none 0 0)
        generalize World.setCell (World.setCell _ _ _) _ _ = W at *
        exact bodyPost_ret (v := .tuple #[.agg #[.string ⟨#[]⟩, .slice none 0 0], .int .i64 7]) (by simp [results, Tryd.results43, go_sem, y0, y1]) rfl (pa_err (HNo.out (HV.out ▸ rfl)) 7 rfl (hm6.below hbw) (hr5.below hbw hbl))
theorem rparam_any (b : Nat) (s : ByteArray) (i : Nat) (A0 : Option Addr) (n0 c0 : Nat) (ps : List Ln.Par) (w : World) (h : RB w b s i) (ht : Tab w) (hbh : Hi b) (hi : i ≤ s.size) (hs : s.size ≤ 400000) (hP : ∀ w', Mv b w w' → Pars w' w'.heap.size A0 n0 ps) (hn0 : n0 ≤ 60) :
    Calls Tryd.prog 43 #[.pointer (some ⟨b, 0, none⟩), .slice A0 n0 c0] w (PaPost b s i (ps.map Prod.fst) w) := by
  have hl : ps.length = n0 := (hP w (Mv.refl b w)).1
  by_cases hn : (Ln.nm 60 (s.data.toList.drop i)).1 = []
  · exact param_noname b s i A0 n0 c0 _ w h hi hs hn
  · by_cases h61 : (Ln.nm 60 (s.data.toList.drop i)).2.head? = some 61
    · by_cases h60 : n0 = 60
      · exact param_full b s i A0 n0 c0 ps w h hi hs hl hn h61 h60
      · by_cases hx : (Ln.nm 60 (s.data.toList.drop i)).1 ∈ ps.map Prod.fst
        · exact param_twice b s i A0 n0 c0 ps w h hi hs hP (by omega) hn h61 hx
        · exact param_vals b s i A0 n0 c0 ps w h ht hbh hi hs hP hl (by omega) hn h61 hx
    · exact param_noeq b s i A0 n0 c0 _ w h hi hs hn h61
end Go.Proofs.YtpcmhaflmpcicaaDoor
