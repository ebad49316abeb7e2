/- What escape.Value returns. -/
import Derived.Test.YtpcmhaflmpcicaaDoorEsVl
namespace Go.Proofs.YtpcmhaflmpcicaaDoor
open Go.RowKit

namespace Es
theorem vl_cl {l : List UInt8} (h : clE false l ≠ 0) : vlE l = clE false l ∧ vlT l = [] := by
  by_cases hv : Lib.validD l = false
  · rw [clE_utf hv]; exact vl_utf hv
  · have hv' : Lib.validD l = true := by simpa using hv
    by_cases hb : l.any (bad false) = false
    · exact absurd (clE_ok hv' hb) h
    · have hb' : l.any (bad false) = true := by simpa using hb
      rw [clE_val hv' hb']; exact vl_none hv' (vlR_bad hb')
theorem vl_zero {l : List UInt8} (h : clE false l = 0) : (vq l = none → vlE l = 7 ∧ vlT l = []) ∧ (∀ m, vq l = some m → vlE l = 0 ∧ vlT l = vr m) := by
  obtain ⟨h1, h2⟩ := clE_zero h
  exact ⟨fun e => vl_none h1 (by rw [vlR_ok h2, e]; rfl), fun m e => vl_some h1 (by rw [vlR_ok h2, e]; rfl)⟩
end Es
theorem acaret_some (s : ByteArray) (w : World) (x : UInt8) (h : Es.ac s.data.toList = some x) :
    Calls Tryd.prog 64 #[.string s] w fun e w' => e = .returned (.tuple #[.int .u8 (x.toNat : Int), .bool true]) ∧ w = w' := by
  have := acaret_any s w
  rw [h] at this
  exact this
theorem acaret_none (s : ByteArray) (w : World) (h : Es.ac s.data.toList = none) :
    Calls Tryd.prog 64 #[.string s] w fun e w' => e = .returned (.tuple #[.int .u8 0, .bool false]) ∧ w = w' := by
  have := acaret_any s w
  rw [h] at this
  exact this
theorem ac_ne {r : List UInt8} {x : UInt8} (h : Es.ac r = some x) : r ≠ [] := by intro e; subst e; cases h
set_option maxHeartbeats 4000000 in
set_option maxRecDepth 100000 in
theorem value_any (s : ByteArray) (w : World) (ht : Tab w) (hs : s.size ≤ 400000) :
    Calls Tryd.prog 57 #[.string s] w fun e w' => e = .returned (.tuple #[.string ⟨(Es.vlT s.data.toList).toArray⟩, .int .i64 (Es.vlE s.data.toList)]) ∧ Gr w w' := by
  have cC := check_any false s w ht (by omega)
  rw [ctl_false] at cC
  by_cases hE : Es.clE false s.data.toList = 0
  · obtain ⟨hN, hY⟩ := Es.vl_zero hE
    rw [hE] at cC
    have cU := fun w => unq_any s w hs
    cases hq : Es.vq s.data.toList with
    | none =>
      obtain ⟨e1, e2⟩ := hN hq
      rw [e1, e2]
      have cU2 := fun w => (cU w).mono (R' := fun e w' => ∃ X, e = .returned (.tuple #[.string X, .bool false]) ∧ Gr w w') (fun e w' ⟨X, h1, _, h3⟩ => ⟨X, by rw [hq] at h1; exact h1, h3⟩)
      clear hN hY hq e1 e2 hE cU
      go_enter Tryd.func57, Tryd.ntmps57
      go_wp2_with (first
        | (go_at_call 35; refine cC.mono ?_; rintro e w1 ⟨rfl, hg1⟩)
        | (go_at_call 63; refine (cU2 _).mono ?_; rintro e w2 ⟨X, rfl, hg2⟩))
      go_ret2
      exact ⟨rfl, hg1.trans hg2⟩
    | some m =>
      obtain ⟨e1, e2⟩ := hY m hq
      rw [e1, e2]
      have cU2 := fun w => (cU w).mono (R' := fun e w' => e = .returned (.tuple #[.string ⟨m.toArray⟩, .bool true]) ∧ Gr w w') (fun e w' ⟨X, h1, h2, h3⟩ => ⟨by rw [h1, hq, h2 m hq]; rfl, h3⟩)
      have hml := Es.vq_len hq
      rw [← Lib.size_eq] at hml
      have htz : (ByteArray.mk m.toArray).size = m.length := size_mk _
      rw [← htz] at hml
      obtain ⟨V, hV⟩ : ∃ V, Es.vr m = V := ⟨_, rfl⟩
      rw [hV]
      have hV2 : Es.vr (ByteArray.mk m.toArray).data.toList = V := hV
      have HV := Lib.hid hV2
      clear hN hY hq e1 e2 hE cU hV hV2 htz
      generalize (ByteArray.mk m.toArray) = t at *
      go_enter Tryd.func57, Tryd.ntmps57
      go_wp2_with (first
        | (go_at_call 35; refine cC.mono ?_; rintro e w1 ⟨rfl, hg1⟩)
        | (go_at_call 63; refine (cU2 _).mono ?_; rintro e w2 ⟨rfl, hg2⟩))
      have hg12 := hg1.trans hg2
      go_loopg [7, 8] t.size (fun g v7 v wx => ∃ A2 n2 c2 acc, ∃ i : Nat, v7 = .slice A2 n2 c2 ∧ v = .int .i64 (i : Int) ∧ i + g = t.size ∧ Below w.heap.size w wx ∧ w.heap.size ≤ wx.heap.size ∧ n2 ≤ i ∧ OwnV wx w.heap.size 5 A2 n2 c2 (bc acc) ∧ Hid (acc ++ Es.vr (t.data.toList.drop i) = V))
      case atStart => exact ⟨_, _, _, [], 0, rfl, rfl, by omega, hg12.below, hg12.lt, by omega, OwnV.nil _ _ _, HV⟩
      case round =>
        obtain ⟨A2, n2, c2, acc, i, rfl, rfl, hig, hb2, hsz2, hn2, hown2, HA⟩ := hrel
        have HG := Lib.hid hig
        clear hig
        by_cases hi : i < t.size
        · have hd := drop_at t i hi
          have ha := HA.out
          rw [hd] at ha
          cases h94 : ((t[i].toNat : Int) == 94)
          · rw [Es.vr_else _ _ (by_f 94 h94)] at ha
            have HB : Hid (acc ++ [t[i]] ++ Es.vr (t.data.toList.drop (i + 1)) = V) := Lib.hid (by rw [← ha]; simp)
            clear ha hd
            go_wp2_with (at_builtin; refine ap_bytes wr rfl (.tmp 47) (.tmp 49) rfl w.heap.size A2 n2 c2 acc [t[i]] rfl hown2 1 1 rfl rfl (by omega) hsz2 ?_; intro A3 c3 w3 hown3 hb3)
            go_roundg (t.size - (i + 1))
            case measure => have := HG.out; omega
            case rel => exact ⟨_, _, _, _, i + 1, rfl, by go_num, by omega, hb2.trans hb3, by have := hb3.size; omega, by omega, hown3, HB⟩
          · have ht94 := by_t 94 h94
            rw [ht94] at ha
            have hx := ext_data t (i + 1)
            cases hab : Es.ac (t.data.toList.drop (i + 1)) with
            | none =>
              rw [Es.vr_none _ hab] at ha
              have cB := fun w => acaret_none (t.extract (i + 1) t.size) w (by rw [hx]; exact hab)
              have HB : Hid (acc ++ [t[i]] ++ Es.vr (t.data.toList.drop (i + 1)) = V) := Lib.hid (by rw [← ha, ht94]; simp)
              clear ha hd hx hab ht94
              go_wp2_with (first
                | (go_at_call 64; refine (cB _).mono ?_; rintro e w' ⟨rfl, rfl⟩)
                | (at_builtin; refine ap_bytes wr rfl (.tmp 47) (.tmp 49) rfl w.heap.size A2 n2 c2 acc [t[i]] rfl hown2 1 1 rfl rfl (by omega) hsz2 ?_; intro A3 c3 w3 hown3 hb3))
              go_roundg (t.size - (i + 1))
              case measure => have := HG.out; omega
              case rel => exact ⟨_, _, _, _, i + 1, rfl, by go_num, by omega, hb2.trans hb3, by have := hb3.size; omega, by omega, hown3, HB⟩
            | some x =>
              rw [Es.vr_some _ _ hab, tail_drop] at ha
              have cB := fun w => acaret_some (t.extract (i + 1) t.size) w x (by rw [hx]; exact hab)
              have hi2 : i + 1 < t.size := by
                have := List.length_pos_iff.2 (ac_ne hab)
                rw [List.length_drop, ← Lib.size_eq] at this
                omega
              have HB : Hid (acc ++ [x] ++ Es.vr (t.data.toList.drop (i + 2)) = V) := Lib.hid (by rw [← ha]; simp)
              clear ha hd hx hab ht94
              go_wp2_with (first
                | (go_at_call 64; refine (cB _).mono ?_; rintro e w' ⟨rfl, rfl⟩)
                | (at_builtin; refine ap_bytes wr rfl (.tmp 47) (.tmp 49) rfl w.heap.size A2 n2 c2 acc [x] rfl hown2 1 1 rfl rfl (by omega) hsz2 ?_; intro A3 c3 w3 hown3 hb3))
              go_roundg (t.size - (i + 2))
              case measure => have := HG.out; omega
              case rel => exact ⟨_, _, _, _, i + 2, rfl, by go_num, by omega, hb2.trans hb3, by have := hb3.size; omega, by omega, hown3, HB⟩
        · have ha := HA.out
          rw [drop_end t i (by omega), Es.vr_nil, List.append_nil] at ha
          obtain rfl : i = t.size := by have := HG.out; omega
          rw [ha] at hown2
          clear ha
          have hcv := conv_back hown2
          go_wp2
          go_ret2
          exact ⟨rfl, ⟨hb2⟩⟩
  · obtain ⟨e1, e2⟩ := Es.vl_cl hE
    rw [e1, e2]
    have hEn : ((Es.clE false s.data.toList : Int) != 0) = true := by simpa using hE
    generalize Es.clE false s.data.toList = E at *
    clear hE e1 e2
    go_enter Tryd.func57, Tryd.ntmps57
    go_wp2_with (go_at_call 35; refine cC.mono ?_; rintro e w1 ⟨rfl, hg1⟩)
    go_ret2
    exact ⟨rfl, hg1⟩
end Go.Proofs.YtpcmhaflmpcicaaDoor
