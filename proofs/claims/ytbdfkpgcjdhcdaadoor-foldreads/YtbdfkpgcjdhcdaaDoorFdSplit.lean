/- What fold.split returns. -/
import Derived.Test.YtbdfkpgcjdhcdaaDoorFdMem
namespace Go.Proofs.YtbdfkpgcjdhcdaaDoor
open Go.RowKit

namespace Fd
theorem bl_len (l : List UInt8) : (bl l).length ≤ l.length := by
  unfold bl; exact (List.takeWhile_prefix _).length_le
theorem tc_len (l : List UInt8) : (tc l).length ≤ l.length := by
  unfold tc; split
  · rw [List.length_dropLast]; omega
  · exact Nat.le_refl _
end Fd
set_option maxHeartbeats 4000000 in
set_option maxRecDepth 100000 in
theorem split_any (s : ByteArray) (w : World) (hs : s.size ≤ 20000) :
    Calls Tryd.prog 18 #[.string s] w fun e w' => ∃ A n c, e = .returned (.tuple #[.slice A n c, .int .i64 ((Fd.sp 0 s.data.toList).1 : Int)]) ∧ OwnV w' w.heap.size 9 A n c (sc (Fd.sp 0 s.data.toList).2) ∧ Gr w w' := by
  obtain ⟨R, hR⟩ : ∃ R, Fd.sp 0 s.data.toList = R := ⟨_, rfl⟩
  rw [hR]
  have HR := Lib.hid hR
  clear hR
  go_enter Tryd.func18, Tryd.ntmps18
  go_wp2
  go_loopg [0, 4] s.size (fun g v0 v4 wx => ∃ A2 n2 c2 ps, ∃ t : ByteArray, v0 = .string t ∧ v4 = .slice A2 n2 c2 ∧ OwnV wx w.heap.size 9 A2 n2 c2 (sc ps) ∧ Below w.heap.size w wx ∧ w.heap.size ≤ wx.heap.size ∧ t.size ≤ g ∧ t.size + n2 ≤ 20000 ∧ Hid (Fd.cmb ps (Fd.sp ps.length t.data.toList) = R))
  case atStart =>
    exact ⟨_, _, _, [], s, rfl, rfl, OwnV.nil _ _ _, Below.refl _ _, Nat.le_refl _, Nat.le_refl _, by omega, Lib.hid (by rw [Fd.cmb_nil _ (Fd.sp_err _ _)]; exact HR.out)⟩
  case round =>
    obtain ⟨A2, n2, c2, ps, t, rfl, rfl, hown2, hb2, hsz2, htg, htn, HC⟩ := hrel
    have hpl : ps.length = n2 := by simpa [sc] using hown2.len
    have HP := Lib.hid hpl
    clear hpl
    by_cases h0 : t.size = 0
    · have hem : t.toList.isEmpty = true := by rw [Lib.toList_data, isEmpty_size]; simp [h0]
      have htl : t.data.toList = [] := List.eq_nil_of_length_eq_zero (by rw [← Lib.size_eq]; exact h0)
      have hRe : R = (0, ps) := by rw [← HC.out, htl, Fd.cmb_end]
      subst hRe
      clear htl h0
      go_wp2
      go_ret2
      exact ⟨_, _, _, rfl, hown2, ⟨hb2⟩⟩
    · have hem : t.toList.isEmpty = false := by rw [Lib.toList_data, isEmpty_size]; simp [h0]
      have htl : t.data.toList ≠ [] := by intro h; have := Lib.size_eq t; rw [h, List.length_nil] at this; omega
      have cC := cut_any t wr (by omega)
      have HB := Lib.hid (fun n b => Fd.cmb_bad ps n t.data.toList htl b)
      have HG := Lib.hid (fun n b => Fd.cmb_good ps n t.data.toList htl b)
      have hal := Fd.al_len _ htl
      rw [← Lib.size_eq] at hal
      have hbl := Fd.bl_len t.data.toList
      have htc := Fd.tc_len (Fd.bl t.data.toList)
      rw [← Lib.size_eq] at hbl
      have cT := fun w => trim_any ⟨(Fd.bl t.data.toList).toArray⟩ w (by rw [size_mk]; omega)
      have cH := fun w => has_any ⟨(Fd.tc (Fd.bl t.data.toList)).toArray⟩ w
      have e1 : (ByteArray.mk (Fd.bl t.data.toList).toArray).data.toList = Fd.bl t.data.toList := rfl
      have e2 : (ByteArray.mk (Fd.tc (Fd.bl t.data.toList)).toArray).data.toList = Fd.tc (Fd.bl t.data.toList) := rfl
      rw [e1] at cT
      rw [e2] at cH
      have cK := fun h w => continues_any ⟨(Fd.tc (Fd.bl t.data.toList)).toArray⟩ w (by rw [size_mk]; exact h)
      rw [e2] at cK
      have hpe : (ByteArray.mk (Fd.tc (Fd.bl t.data.toList)).toArray).toList.isEmpty = (Fd.tc (Fd.bl t.data.toList)).isEmpty := by rw [Lib.toList_data]
      have HBP : Hid (Fd.badp t.data.toList = ((Fd.al t.data.toList).isEmpty || (Fd.tc (Fd.bl t.data.toList)).isEmpty || (Fd.tc (Fd.bl t.data.toList)).contains 13)) := Lib.hid rfl
      have hrs : (ByteArray.mk (Fd.al t.data.toList).tail.toArray).size = (Fd.al t.data.toList).tail.length := size_mk _
      have HRT : Hid ((ByteArray.mk (Fd.al t.data.toList).tail.toArray).data.toList = (Fd.al t.data.toList).tail) := Lib.hid rfl
      rw [← hrs] at hal
      clear e1 e2 hbl htc htl hrs
      generalize (ByteArray.mk (Fd.al t.data.toList).tail.toArray) = rest at *
      generalize (ByteArray.mk (Fd.bl t.data.toList).toArray) = bef at *
      obtain ⟨E, hE⟩ : ∃ E, (Fd.al t.data.toList).isEmpty = E := ⟨_, rfl⟩
      obtain ⟨M, hM⟩ : ∃ M, (Fd.tc (Fd.bl t.data.toList)).isEmpty = M := ⟨_, rfl⟩
      obtain ⟨C, hC⟩ : ∃ C, (Fd.tc (Fd.bl t.data.toList)).contains 13 = C := ⟨_, rfl⟩
      obtain ⟨T, hT⟩ : ∃ T, Fd.ct (Fd.tc (Fd.bl t.data.toList)) = T := ⟨_, rfl⟩
      rw [hE] at cC HBP
      rw [hM] at hpe HBP
      rw [hC] at cH HBP
      rw [hT] at cK HB HG
      have HPC : Hid (sc [Fd.tc (Fd.bl t.data.toList)] = [Value.string ⟨(Fd.tc (Fd.bl t.data.toList)).toArray⟩]) := Lib.hid rfl
      have HM := Lib.hid hM
      clear hE hM hC hT
      generalize (ByteArray.mk (Fd.tc (Fd.bl t.data.toList)).toArray) = pc at *
      cases E
      · cases M
        · have hpos : 0 < (Fd.tc (Fd.bl t.data.toList)).length := by
            have := HM.out
            exact List.length_pos_iff.2 (by simpa using this)
          have cK := cK hpos
          clear hpos
          cases C
          · by_cases hbad : n2 = 0 ∧ T = true
            · obtain ⟨rfl, rfl⟩ := hbad
              have hRe : R = (1, []) := by
                rw [← HC.out, HP.out]
                exact HB.out 0 (by rw [HBP.out]; rfl)
              subst hRe
              go_wp2_with (first
                | (go_at_call 25; refine cC.mono ?_; rintro e w3 ⟨rfl, hg3⟩)
                | (go_at_call 26; refine (cT _).mono ?_; rintro e w4 ⟨rfl, rfl⟩)
                | (go_at_call 27; refine (cH _).mono ?_; rintro e w5 ⟨rfl, rfl⟩)
                | (go_at_call 19; refine (cK _).mono ?_; rintro e w6 ⟨rfl, rfl⟩))
              go_ret2
              exact ⟨_, _, _, rfl, OwnV.nil _ _ _, ⟨hb2.trans (hg3.low hsz2)⟩⟩
            · have hgood : (Fd.badp t.data.toList || (decide (n2 = 0) && T)) = false := by
                rw [HBP.out]
                by_cases hz : n2 = 0
                · have : T = false := by cases T; rfl; exact absurd ⟨hz, rfl⟩ hbad
                  simp [this]
                · simp [hz]
              have HGG := Lib.hid (HG.out n2 hgood)
              clear hgood
              by_cases hz : n2 = 0
              · have hTf : T = false := by cases T; rfl; exact absurd ⟨hz, rfl⟩ hbad
                subst hTf hz
                go_wp2_with (first
                  | (go_at_call 25; refine cC.mono ?_; rintro e w3 ⟨rfl, hg3⟩)
                  | (go_at_call 26; refine (cT _).mono ?_; rintro e w4 ⟨rfl, rfl⟩)
                  | (go_at_call 27; refine (cH _).mono ?_; rintro e w5 ⟨rfl, rfl⟩)
                  | (go_at_call 19; refine (cK _).mono ?_; rintro e w6 ⟨rfl, rfl⟩)
                  | (at_builtin; refine ap_lit w3 rfl (.tmp 38) (.tmp 40) 22 9 (.string ⟨#[]⟩) 16 Tryd.underlying22 info_str rfl (by omega) rfl w.heap.size A2 0 c2 (sc ps) [.string pc] rfl (hown2.gr hg3) 1 1 rfl rfl (by intro u hu; simp at hu; subst hu; rfl) (by omega) (by have := hg3.lt; omega) ?_; intro A5 c5 w5 hown5 hb5))
                go_roundg rest.size
                case measure => omega
                case rel =>
                  have hbb := (hg3.low hsz2).trans hb5
                  refine ⟨A5, _, c5, ps ++ [Fd.tc (Fd.bl t.data.toList)], rest, rfl, rfl, ?_, hb2.trans hbb, by have := hbb.size; omega, Nat.le_refl _, by omega, Lib.hid ?_⟩
                  · rw [sc_append, HPC.out]; exact hown5
                  · rw [← HC.out, HP.out, HGG.out, HRT.out, List.length_append, HP.out]; rfl
              · have hz2 : ((n2 : Int) == 0) = false := by simp; omega
                go_wp2_with (first
                  | (go_at_call 25; refine cC.mono ?_; rintro e w3 ⟨rfl, hg3⟩)
                  | (go_at_call 26; refine (cT _).mono ?_; rintro e w4 ⟨rfl, rfl⟩)
                  | (go_at_call 27; refine (cH _).mono ?_; rintro e w5 ⟨rfl, rfl⟩)
                  | (at_builtin; refine ap_lit w3 rfl (.tmp 38) (.tmp 40) 22 9 (.string ⟨#[]⟩) 16 Tryd.underlying22 info_str rfl (by omega) rfl w.heap.size A2 n2 c2 (sc ps) [.string pc] rfl (hown2.gr hg3) 1 1 rfl rfl (by intro u hu; simp at hu; subst hu; rfl) (by omega) (by have := hg3.lt; omega) ?_; intro A5 c5 w5 hown5 hb5))
                go_roundg rest.size
                case measure => omega
                case rel =>
                  have hbb := (hg3.low hsz2).trans hb5
                  refine ⟨A5, _, c5, ps ++ [Fd.tc (Fd.bl t.data.toList)], rest, rfl, rfl, ?_, hb2.trans hbb, by have := hbb.size; omega, Nat.le_refl _, by omega, Lib.hid ?_⟩
                  · rw [sc_append, HPC.out]; exact hown5
                  · rw [← HC.out, HP.out, HGG.out, HRT.out, List.length_append, HP.out]; rfl
          · skip
            have hRe : R = (n2 + 1, []) := by
              rw [← HC.out, HP.out]
              exact HB.out n2 (by rw [HBP.out]; simp)
            subst hRe
            go_wp2_with (first
              | (go_at_call 25; refine cC.mono ?_; rintro e w3 ⟨rfl, hg3⟩)
              | (go_at_call 26; refine (cT _).mono ?_; rintro e w4 ⟨rfl, rfl⟩)
              | (go_at_call 27; refine (cH _).mono ?_; rintro e w5 ⟨rfl, rfl⟩))
            go_ret2
            exact ⟨_, _, _, rfl, OwnV.nil _ _ _, ⟨hb2.trans (hg3.low hsz2)⟩⟩
        · skip
          have hRe : R = (n2 + 1, []) := by
            rw [← HC.out, HP.out]
            exact HB.out n2 (by rw [HBP.out]; simp)
          subst hRe
          go_wp2_with (first
            | (go_at_call 25; refine cC.mono ?_; rintro e w3 ⟨rfl, hg3⟩)
            | (go_at_call 26; refine (cT _).mono ?_; rintro e w4 ⟨rfl, rfl⟩)
            | (go_at_call 27; refine (cH _).mono ?_; rintro e w5 ⟨rfl, rfl⟩))
          go_ret2
          exact ⟨_, _, _, rfl, OwnV.nil _ _ _, ⟨hb2.trans (hg3.low hsz2)⟩⟩
      · skip
        have hRe : R = (n2 + 1, []) := by
          rw [← HC.out, HP.out]
          exact HB.out n2 (by rw [HBP.out]; simp)
        subst hRe
        go_wp2_with (first
          | (go_at_call 25; refine cC.mono ?_; rintro e w3 ⟨rfl, hg3⟩)
          | (go_at_call 26; refine (cT _).mono ?_; rintro e w4 ⟨rfl, rfl⟩)
          | (go_at_call 27; refine (cH _).mono ?_; rintro e w5 ⟨rfl, rfl⟩))
        go_ret2
        exact ⟨_, _, _, rfl, OwnV.nil _ _ _, ⟨hb2.trans (hg3.low hsz2)⟩⟩
end Go.Proofs.YtbdfkpgcjdhcdaaDoor
