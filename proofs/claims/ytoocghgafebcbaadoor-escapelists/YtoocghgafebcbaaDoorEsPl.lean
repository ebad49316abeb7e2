/- What escape.Plain returns. -/
import Derived.Test.YtoocghgafebcbaaDoorEsTx
namespace Go.Proofs.YtoocghgafebcbaaDoor
open Go.RowKit

namespace Es
theorem pl_cl {l : List UInt8} (h : clE false l ≠ 0) : plE l = clE false l ∧ plT l = [] := by
  by_cases hv : Lib.validD l = false
  · rw [clE_utf hv]; exact pl_utf hv
  · have hv' : Lib.validD l = true := by simpa using hv
    by_cases hb : l.any (bad false) = false
    · exact absurd (clE_ok hv' hb) h
    · have hb' : l.any (bad false) = true := by simpa using hb
      rw [clE_val hv' hb']; exact pl_none hv' (plR_bad hb')
theorem pl_zero {l : List UInt8} (h : clE false l = 0) : (sing (rd [] l) = none → plE l = 7 ∧ plT l = []) ∧ (∀ t, sing (rd [] l) = some t → plE l = 0 ∧ plT l = t) := by
  obtain ⟨h1, h2⟩ := clE_zero h
  exact ⟨fun e => pl_none h1 (by rw [plR_ok h2]; exact e), fun t e => pl_some h1 (by rw [plR_ok h2]; exact e)⟩
end Es
theorem aback_some (s : ByteArray) (w : World) (x : UInt8) (h : Es.ab s.data.toList = some x) :
    Calls Tryd.prog 22 #[.string s] w fun e w' => e = .returned (.tuple #[.int .u8 (x.toNat : Int), .bool true]) ∧ w = w' := by
  have := aback_any s w
  rw [h] at this
  exact this
theorem aback_none (s : ByteArray) (w : World) (h : Es.ab s.data.toList = none) :
    Calls Tryd.prog 22 #[.string s] w fun e w' => e = .returned (.tuple #[.int .u8 0, .bool false]) ∧ w = w' := by
  have := aback_any s w
  rw [h] at this
  exact this
theorem tail_drop (s : ByteArray) (i : Nat) : (s.data.toList.drop (i + 1)).tail = s.data.toList.drop (i + 2) := by rw [List.tail_drop]
theorem ext_data (s : ByteArray) (i : Nat) : (s.extract i s.size).data.toList = s.data.toList.drop i := by rw [extract_from]
set_option maxHeartbeats 4000000 in
set_option maxRecDepth 100000 in
theorem plain_any (s : ByteArray) (w : World) (ht : Tab w) (hs : s.size ≤ 400000) :
    Calls Tryd.prog 13 #[.string s] w fun e w' => e = .returned (.tuple #[.string ⟨(Es.plT s.data.toList).toArray⟩, .int .i64 (Es.plE s.data.toList)]) ∧ Gr w w' := by
  have cC := check_any false s w ht (by omega)
  rw [ctl_false] at cC
  by_cases hE : Es.clE false s.data.toList = 0
  · obtain ⟨hN, hY⟩ := Es.pl_zero hE
    rw [hE] at cC
    obtain ⟨R, hR⟩ : ∃ R, Es.sing (Es.rd [] s.data.toList) = R := ⟨_, rfl⟩
    rw [hR] at hN hY
    generalize Es.plE s.data.toList = E at *
    generalize Es.plT s.data.toList = T at *
    have HN := Lib.hid hN
    have HY := Lib.hid hY
    have HR := Lib.hid hR
    clear hN hY hR hE
    go_enter Tryd.func13, Tryd.ntmps13
    go_wp2_with (go_at_call 20; refine cC.mono ?_; rintro e w1 ⟨rfl, hg1⟩)
    go_loopg [5, 6] s.size (fun g v5 v wx => ∃ A2 n2 c2 acc, ∃ i : Nat, v5 = .slice A2 n2 c2 ∧ v = .int .i64 (i : Int) ∧ i + g = s.size ∧ Below w.heap.size w wx ∧ w.heap.size ≤ wx.heap.size ∧ n2 ≤ i ∧ OwnV wx w.heap.size 5 A2 n2 c2 (bc acc) ∧ Hid (Es.sing (Es.rd acc (s.data.toList.drop i)) = R))
    case atStart => exact ⟨_, _, _, [], 0, rfl, rfl, by omega, hg1.below, hg1.lt, by omega, OwnV.nil _ _ _, HR⟩
    case round =>
      obtain ⟨A2, n2, c2, acc, i, rfl, rfl, hig, hb2, hsz2, hn2, hown2, HA⟩ := hrel
      have HG := Lib.hid hig
      clear hig
      by_cases hi : i < s.size
      · have hd := drop_at s i hi
        have ha := HA.out
        rw [hd] at ha
        cases h59 : ((s[i].toNat : Int) == 59)
        · cases h44 : ((s[i].toNat : Int) == 44)
          · cases h92 : ((s[i].toNat : Int) == 92)
            · rw [Es.rd_plain _ _ _ (by_f 44 h44) (by_f 59 h59) (by_f 92 h92)] at ha
              have HB := Lib.hid ha
              clear ha hd
              go_wp2_with (at_builtin; refine ap_bytes wr rfl (.tmp 42) (.tmp 44) rfl w.heap.size A2 n2 c2 acc [s[i]] rfl hown2 1 1 rfl rfl (by omega) hsz2 ?_; intro A3 c3 w3 hown3 hb3)
              go_roundg (s.size - (i + 1))
              case measure => have := HG.out; omega
              case rel => exact ⟨_, _, _, _, i + 1, rfl, by go_num, by omega, hb2.trans hb3, by have := hb3.size; omega, by omega, hown3, HB⟩
            · rw [by_t 92 h92] at ha
              have hx := ext_data s (i + 1)
              cases hab : Es.ab (s.data.toList.drop (i + 1)) with
              | none =>
                rw [Es.rd_back_none _ _ hab, Es.sing_none] at ha
                have cB := fun w => aback_none (s.extract (i + 1) s.size) w (by rw [hx]; exact hab)
                have HB := Lib.hid (HN.out ha.symm)
                clear ha hd hx hab
                go_wp2_with (go_at_call 22; refine (cB _).mono ?_; rintro e w' ⟨rfl, rfl⟩)
                go_ret2
                rw [HB.out.1, HB.out.2]
                exact ⟨rfl, ⟨hb2⟩⟩
              | some x =>
                rw [Es.rd_back_some _ _ _ hab, tail_drop] at ha
                have cB := fun w => aback_some (s.extract (i + 1) s.size) w x (by rw [hx]; exact hab)
                have hi2 : i + 1 < s.size := by
                  have := List.length_pos_iff.2 (Es.ab_ne hab)
                  rw [List.length_drop, ← Lib.size_eq] at this
                  omega
                have HB := Lib.hid ha
                clear ha hd hx hab
                go_wp2_with (first
                  | (go_at_call 22; refine (cB _).mono ?_; rintro e w' ⟨rfl, rfl⟩)
                  | (at_builtin; refine ap_bytes wr rfl (.tmp 42) (.tmp 44) rfl w.heap.size A2 n2 c2 acc [x] rfl hown2 1 1 rfl rfl (by omega) hsz2 ?_; intro A3 c3 w3 hown3 hb3))
                go_roundg (s.size - (i + 2))
                case measure => have := HG.out; omega
                case rel => exact ⟨_, _, _, _, i + 2, rfl, by go_num, by omega, hb2.trans hb3, by have := hb3.size; omega, by omega, hown3, HB⟩
          · rw [by_t 44 h44, Es.sing_more] at ha
            have HB := Lib.hid (HN.out ha.symm)
            clear ha hd
            go_wp2
            go_ret2
            rw [HB.out.1, HB.out.2]
            exact ⟨rfl, ⟨hb2⟩⟩
        · rw [by_t 59 h59, Es.rd_semi, Es.sing_none] at ha
          have HB := Lib.hid (HN.out ha.symm)
          clear ha hd
          go_wp2
          go_ret2
          rw [HB.out.1, HB.out.2]
          exact ⟨rfl, ⟨hb2⟩⟩
      · have ha := HA.out
        rw [drop_end s i (by omega), Es.rd_nil, Es.sing_one] at ha
        have HB := Lib.hid (HY.out _ ha.symm)
        obtain rfl : i = s.size := by have := HG.out; omega
        clear ha
        have hcv := conv_back hown2
        go_wp2
        go_ret2
        rw [HB.out.1, HB.out.2]
        exact ⟨rfl, ⟨hb2⟩⟩
  · obtain ⟨e1, e2⟩ := Es.pl_cl hE
    rw [e1, e2]
    have hEn : ((Es.clE false s.data.toList : Int) != 0) = true := by simpa using hE
    generalize Es.clE false s.data.toList = E at *
    clear hE e1 e2
    go_enter Tryd.func13, Tryd.ntmps13
    go_wp2_with (go_at_call 20; refine cC.mono ?_; rintro e w1 ⟨rfl, hg1⟩)
    go_ret2
    exact ⟨rfl, hg1⟩
end Go.Proofs.YtoocghgafebcbaaDoor
