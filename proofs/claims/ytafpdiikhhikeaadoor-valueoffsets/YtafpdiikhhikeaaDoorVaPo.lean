/- What value.ParseOffset returns. -/
import Derived.Test.YtafpdiikhhikeaaDoorVaPd
import Derived.Test.YtafpdiikhhikeaaDoorRefPl
import Derived.Test.YtafpdiikhhikeaaDoorVo
import Derived.Test.YtafpdiikhhikeaaDoorRefTm
import Derived.Deep.Cut
import Derived.Deep.CutBlock
namespace Go.Proofs.YtafpdiikhhikeaaDoor
open Go.RowKit

namespace Va
theorem po_len {l : List UInt8} (h5 : l.length ≠ 5) (h7 : l.length ≠ 7) : po l = none := by
  rcases l with _ | ⟨c, r⟩
  · rfl
  · refine if_neg fun h => ?_
    have := (ofB_iff.1 h.2.1).1
    rw [List.length_cons] at h5 h7
    unfold six at this
    split at this
    · omega
    · omega
theorem six_len {r : List UInt8} (h : r.length = 4 ∨ r.length = 6) : (six r).length = 6 := by
  unfold six
  split
  · rw [List.length_append]; simp; omega
  · omega
theorem po_sign {c : UInt8} {r : List UInt8} (h1 : c ≠ 43) (h2 : c ≠ 45) : po (c :: r) = none := if_neg fun h => h.1.elim h1 h2
theorem po_bad {c : UInt8} {r : List UInt8} (h : ofB (six r) = false) : po (c :: r) = none := if_neg fun h' => by rw [h] at h'; cases h'.2.1
theorem po_zero {r : List UInt8} (h : Txt.val (six r) 0 = 0) : po (45 :: r) = none := if_neg fun h' => h'.2.2 ⟨rfl, h⟩
theorem po_neg {r : List UInt8} (h : ofB (six r) = true) (hv : Txt.val (six r) 0 ≠ 0) : po (45 :: r) = some (-(ofV (six r))) := if_pos ⟨.inr rfl, h, fun h' => hv h'.2⟩
theorem po_pos {r : List UInt8} (h : ofB (six r) = true) : po (43 :: r) = some (ofV (six r)) := if_pos ⟨.inl rfl, h, fun h' => by cases h'.1⟩
theorem num_six {r : List UInt8} (h : (six r).length = 6) : num (six r) 6 = (six r).all Txt.isD := by
  rw [Bool.eq_iff_iff, num_iff]
  exact ⟨fun h => h.2.2, fun h' => ⟨by intro e; rw [e] at h; (cases h), by omega, h'⟩⟩
end Va
theorem cons_at (s : ByteArray) (h : 0 < s.size) : s.data.toList = s[0] :: s.data.toList.tail := by
  have := drop_cons s 0 h
  rw [List.drop_zero] at this
  rw [this]; simp
set_option maxRecDepth 100000 in
set_option maxHeartbeats 4000000 in
theorem poffset_any (s : ByteArray) (w : World) (hl : s.size ≤ 1000000) :
    Calls Tryd.prog 17 #[.string s] w fun e w' => e = .returned (Va.opV (Va.po s.data.toList)) ∧ w = w' := by
  have hz := Lib.size_eq s
  obtain ⟨N, hN⟩ : ∃ N, Va.po s.data.toList = N := ⟨_, rfl⟩
  rw [hN]
  by_cases hs : s.size = 5 ∨ s.size = 7
  · have h0 : 0 < s.size := by omega
    have hcs := cons_at s h0
    have htl : s.data.toList.tail.length = s.size - 1 := by rw [List.length_tail, ← hz]
    have h6 : (Va.six s.data.toList.tail).length = 6 := Va.six_len (by omega)
    have ht := tail_at s
    have h5i : ((s.size : Int) != 5) = true → ((s.size : Int) != 7) = false := by rw [bne_iff_ne, bne_eq_false_iff_eq]; omega
    by_cases hc : s[0] = 43 ∨ s[0] = 45
    · have hN2 : N = Va.po (s[0] :: s.data.toList.tail) := by rw [← hN, ← hcs]
      have HN := Lib.hid hN2
      clear hN hN2 hcs h5i
      go_enter Tryd.func17, Tryd.ntmps17
      go_upto_region 1 with fail
      go_cut [28] from 11 (fun v wx => v = .bool false ∧ w = wx)
      case first =>
        have hx0 : (0 : Int) < s.size := by omega
        clear hz htl h6 ht HN
        rcases hs with hs5 | hs7
        · have q1 : ((s.size : Int) != 5) = false := by rw [bne_eq_false_iff_eq]; omega
          clear hs5
          rcases hc with hc | hc
          · have b1 : ((s[0].toNat : Int) != 43) = false := by rw [hc]; rfl
            clear hc
            go_wp2
            go_meet
            case rel => exact ⟨rfl, rfl⟩
          · have b1 : ((s[0].toNat : Int) != 43) = true := by rw [hc]; rfl
            have b2 : ((s[0].toNat : Int) != 45) = false := by rw [hc]; rfl
            clear hc
            go_wp2
            go_meet
            case rel => exact ⟨rfl, rfl⟩
        · have q1 : ((s.size : Int) != 5) = true := by rw [bne_iff_ne]; omega
          have q2 : ((s.size : Int) != 7) = false := by rw [bne_eq_false_iff_eq]; omega
          clear hs7
          rcases hc with hc | hc
          · have b1 : ((s[0].toNat : Int) != 43) = false := by rw [hc]; rfl
            clear hc
            go_wp2
            go_meet
            case rel => exact ⟨rfl, rfl⟩
          · have b1 : ((s[0].toNat : Int) != 43) = true := by rw [hc]; rfl
            have b2 : ((s[0].toNat : Int) != 45) = false := by rw [hc]; rfl
            clear hc
            go_wp2
            go_meet
            case rel => exact ⟨rfl, rfl⟩
      case rest =>
        obtain ⟨rfl, rfl⟩ := hcut
        have hzx : (s.extract 1 s.size).size = s.size - 1 := by rw [Lib.size_eq, ht]; exact htl
        have HT := Lib.hid ht
        have HZX := Lib.hid hzx
        have hzl : (s.extract 1 s.size).size ≤ 1000000 := by omega
        have hx0 : (0 : Int) < s.size := by omega
        have HS := Lib.hid hs
        have HH := Lib.hid h6
        have HTL := Lib.hid htl
        clear ht hzx hs hz h6 htl
        go_upto_if 33 with fail
        go_cut [4] from 11 (fun v4 wx => ∃ d : ByteArray, v4 = .string d ∧ w = wx ∧ Hid (d.data.toList = Va.six s.data.toList.tail))
        case first =>
          by_cases h5 : s.size = 5
          · have q1 : ((s.size : Int) == 5) = true := by rw [beq_iff_eq]; omega
            have h4 : s.data.toList.tail.length = 4 := by rw [HTL.out]; omega
            have hX : (s.extract 1 s.size ++ ⟨#[48, 48]⟩).data.toList = Va.six s.data.toList.tail := by
              unfold Va.six
              rw [if_pos h4, ByteArray.data_append, Array.toList_append, HT.out]
            have HX := Lib.hid hX
            clear h5 h4 hX hc
            go_wp2
            go_meet
            case rel => exact ⟨_, rfl, rfl, HX⟩
          · have q1 : ((s.size : Int) == 5) = false := by rw [beq_eq_false_iff_ne]; omega
            have h4 : ¬ s.data.toList.tail.length = 4 := by rw [HTL.out]; omega
            have hX : (s.extract 1 s.size).data.toList = Va.six s.data.toList.tail := by
              unfold Va.six
              rw [if_neg h4, HT.out]
            have HX := Lib.hid hX
            clear h5 h4 hX hc
            go_wp2
            go_meet
            case rel => exact ⟨_, rfl, rfl, HX⟩
        case rest =>
          obtain ⟨d, rfl, rfl, HX⟩ := hcut
          have cD := decimal_any d 6 w (by omega)
          rw [HX.out] at cD
          have hN2 := HN.out
          have hnm := Va.num_six HH.out
          have hbi := @Va.ofB_iff (Va.six s.data.toList.tail)
          have hpo := fun c => @Va.po_bad c s.data.toList.tail
          have hpz := @Va.po_zero s.data.toList.tail
          have hpn := @Va.po_neg s.data.toList.tail
          have hpp := @Va.po_pos s.data.toList.tail
          have h6 := HH.out
          generalize hzz : Va.six s.data.toList.tail = z at *
          clear hzz HX HZX HT HS HTL HN HH hzl
          rcases hn : Va.num z 6
          · have hb : Va.ofB z = false := by
              rw [Bool.eq_false_iff]; intro h
              have := (hbi.1 h).2.1
              rw [← hnm, hn] at this; cases this
            have hE : N = none := by rw [hN2]; exact hpo _ hb
            have HE := Lib.hid hE
            have hv : decV z 6 = 0 := by unfold decV; rw [hn]; rfl
            rw [hn, hv] at cD
            clear hE hN2 hnm hbi hpo hpz hpn hpp hb hv hn hc
            go_wp2_with (go_at_call 37; refine cD.mono ?_; rintro e w' ⟨rfl, rfl⟩)
            go_ret2
            exact ⟨by rw [HE.out] <;> rfl, rfl⟩
          · have hv : decV z 6 = Txt.val z 0 := by unfold decV; rw [hn]; rfl
            have hlt := Va.val_lt10 hn
            rw [hn, hv] at cD
            have hbb : Va.ofB z = true ↔ (Txt.val z 0 : Int) / 10000 ≤ 23 ∧ (Txt.val z 0 : Int) / 100 % 100 ≤ 59 ∧ (Txt.val z 0 : Int) % 100 ≤ 59 := by
              rw [hbi]
              exact ⟨fun h => h.2.2, fun h => ⟨h6, by rw [← hnm]; exact hn, h⟩⟩
            have hov : Va.ofV z = (Txt.val z 0 : Int) / 10000 * 3600 + (Txt.val z 0 : Int) / 100 % 100 * 60 + (Txt.val z 0 : Int) % 100 := rfl
            generalize Txt.val z 0 = v at *
            have HB := Lib.hid hbb
            have HO := Lib.hid hov
            have HN2 := Lib.hid hN2
            clear hbi hbb hov hv hnm hN2 hn
            have v0 : (0 : Int) ≤ v := by omega
            go_upto_region 8 with (go_at_call 37; refine cD.mono ?_; rintro e w' ⟨rfl, rfl⟩)
            go_cut [61] from 11 (fun x wx => x = .bool (!Va.ofB z) ∧ w = wx)
            case first =>
              by_cases c1 : (23 : Int) < v / 10000
              · have hb : Va.ofB z = false := by rw [Bool.eq_false_iff]; intro h; have := HB.out.1 h; omega
                have HF := Lib.hid hb
                clear hb hpo hpz hpn hpp hc
                go_wp2
                go_meet
                case rel => exact ⟨by rw [HF.out] <;> rfl, rfl⟩
              have d1 : decide ((23 : Int) < v / 10000) = false := decide_eq_false c1
              by_cases c2 : (59 : Int) < v / 100 % 100
              · have hb : Va.ofB z = false := by rw [Bool.eq_false_iff]; intro h; have := HB.out.1 h; omega
                have HF := Lib.hid hb
                clear hb hpo hpz hpn hpp hc
                go_wp2
                go_meet
                case rel => exact ⟨by rw [HF.out] <;> rfl, rfl⟩
              have d2 : decide ((59 : Int) < v / 100 % 100) = false := decide_eq_false c2
              by_cases c3 : (59 : Int) < v % 100
              · have hb : Va.ofB z = false := by rw [Bool.eq_false_iff]; intro h; have := HB.out.1 h; omega
                have HF := Lib.hid hb
                clear hb hpo hpz hpn hpp hc
                go_wp2
                go_meet
                case rel => exact ⟨by rw [HF.out] <;> rfl, rfl⟩
              · have d3 : decide ((59 : Int) < v % 100) = false := decide_eq_false c3
                have hb : Va.ofB z = true := HB.out.2 (by omega)
                have HF := Lib.hid hb
                clear hb hpo hpz hpn hpp hc
                go_wp2
                go_meet
                case rel => exact ⟨by rw [HF.out] <;> rfl, rfl⟩
            case rest =>
              obtain ⟨rfl, rfl⟩ := hcut
              rcases hb : Va.ofB z
              · have hE : N = none := by rw [HN2.out]; exact hpo _ hb
                have HE := Lib.hid hE
                clear hE hpo hpz hpn hpp hc hb
                go_wp2
                go_ret2
                exact ⟨by rw [HE.out] <;> rfl, rfl⟩
              · have hbd := HB.out.1 hb
                have cS := fun g w => signed_any ((v : Int) / 10000 * 3600 + (v : Int) / 100 % 100 * 60 + (v : Int) % 100) g w (by omega) (by omega)
                rcases hc with hc | hc
                · have hE : N = some (Va.ofV z) := by rw [HN2.out, hc]; exact hpp hb
                  rw [HO.out] at hE
                  have HE := Lib.hid hE
                  have b1 : ((s[0].toNat : Int) == 45) = false := by rw [hc]; rfl
                  clear hE hpo hpz hpn hpp hc hb
                  go_wp2_with (go_at_call 33; refine (cS _ _).mono ?_; rintro e w' ⟨rfl, rfl⟩)
                  go_ret2
                  exact ⟨by rw [HE.out] <;> rfl, rfl⟩
                · have b1 : ((s[0].toNat : Int) == 45) = true := by rw [hc]; rfl
                  by_cases hv0 : v = 0
                  · have hE : N = none := by rw [HN2.out, hc]; exact hpz hv0
                    have HE := Lib.hid hE
                    have z0 : ((v : Int) == 0) = true := by rw [beq_iff_eq]; omega
                    clear hE hpo hpz hpn hpp hc hb cS
                    go_wp2
                    go_ret2
                    exact ⟨by rw [HE.out] <;> rfl, rfl⟩
                  · have hE : N = some (-(Va.ofV z)) := by rw [HN2.out, hc]; exact hpn hb hv0
                    rw [HO.out] at hE
                    have HE := Lib.hid hE
                    have z0 : ((v : Int) == 0) = false := by rw [beq_eq_false_iff_ne]; omega
                    clear hE hpo hpz hpn hpp hc hb
                    go_wp2_with (go_at_call 33; refine (cS _ _).mono ?_; rintro e w' ⟨rfl, rfl⟩)
                    go_ret2
                    exact ⟨by rw [HE.out] <;> rfl, rfl⟩
    · have hE : N = none := by
        rw [← hN, hcs]
        exact Va.po_sign (fun e => hc (.inl e)) (fun e => hc (.inr e))
      have HE := Lib.hid hE
      have b1 : ((s[0].toNat : Int) != 43) = true := bn 43 (fun e => hc (.inl e))
      have b2 : ((s[0].toNat : Int) != 45) = true := bn 45 (fun e => hc (.inr e))
      have hx0 : (0 : Int) < s.size := by omega
      clear hE hN hcs ht h6 htl hc hz
      rcases hs with hs5 | hs7
      · have q1 : ((s.size : Int) != 5) = false := by rw [bne_eq_false_iff_eq]; omega
        clear hs5
        go_enter Tryd.func17, Tryd.ntmps17
        go_wp2
        go_ret2
        exact ⟨by rw [HE.out] <;> rfl, rfl⟩
      · have q1 : ((s.size : Int) != 5) = true := by rw [bne_iff_ne]; omega
        have q2 : ((s.size : Int) != 7) = false := by rw [bne_eq_false_iff_eq]; omega
        clear hs7
        go_enter Tryd.func17, Tryd.ntmps17
        go_wp2
        go_ret2
        exact ⟨by rw [HE.out] <;> rfl, rfl⟩
  · have hE : N = none := by rw [← hN]; exact Va.po_len (by omega) (by omega)
    have HE := Lib.hid hE
    have q1 : ((s.size : Int) != 5) = true := by rw [bne_iff_ne]; omega
    have q2 : ((s.size : Int) != 7) = true := by rw [bne_iff_ne]; omega
    clear hE hN hs hz
    go_enter Tryd.func17, Tryd.ntmps17
    go_wp2
    go_ret2
    exact ⟨by rw [HE.out] <;> rfl, rfl⟩
end Go.Proofs.YtafpdiikhhikeaaDoor
