/- What the reference's seconds returns. -/
import Derived.Test.YtleeklcpbflfhaaGreatDoorZC
import Derived.Test.YtleeklcpbflfhaaGreatDoorZW
import Derived.Deep.Cut
import Derived.Deep.CutBlock
namespace Go.Proofs.YtleeklcpbflfhaaGreatDoor
open Go.RowKit

theorem ext_cut (x : ByteArray) (a b : Nat) : (x.extract a b).data.toList = (x.data.toList.drop a).take (b - a) := by rw [Lib.extract_data]
theorem ext_rest (x : ByteArray) (a : Nat) : (x.extract a x.size).data.toList = x.data.toList.drop a := by
  rw [Lib.extract_data]
  refine List.take_of_length_le ?_
  rw [List.length_drop, ← Lib.size_eq]; omega
theorem pieces {l : List UInt8} (h : l.length = 15) : l = l.take 4 ++ (l.drop 4).take 2 ++ (l.drop 6).take 2 ++ (l.drop 8).take 1 ++ ((l.drop 9).take 2 ++ (l.drop 11).take 2 ++ l.drop 13) := by
  match l, h with
  | [_, _, _, _, _, _, _, _, _, _, _, _, _, _, _], _ => rfl
theorem ne_bool {c : UInt8} (k : UInt8) (h : c = k) : ((c.toNat : Int) != (k.toNat : Int)) = false := by rw [h]; simp
set_option maxRecDepth 100000 in
set_option maxHeartbeats 4000000 in
theorem rseconds_any (s : ByteArray) (w : World) :
    Calls Tryz.prog 108 #[.string s] w fun e w' => e = .returned (.int .i64 (Va.secV s.data.toList)) ∧ Gr w w' := by
  have hz := Lib.size_eq s
  obtain ⟨N, hN⟩ : ∃ N, Va.secV s.data.toList = N := ⟨_, rfl⟩
  rw [hN]
  by_cases h15 : s.size = 15
  · have q1 : ((s.size : Int) != 15) = false := by rw [bne_eq_false_iff_eq]; omega
    have h8 : 8 < s.size := by omega
    have a8 : s.data.toList[8]? = some s[8] := by
      rw [List.getElem?_eq_getElem (by rw [← hz]; exact h8)]; rfl
    have k8 : (8 : Int) < s.size := by omega
    by_cases hT : s[8] = 84
    · have b1 : ((s[8].toNat : Int) != 84) = false := ne_bool 84 hT
      have l15 : s.data.toList.length = 15 := by rw [← hz]; exact h15
      have hp := pieces l15
      have d8 : (s.data.toList.drop 8).take 1 = [84] := by
        rw [List.drop_eq_getElem_cons (by omega)]
        have : s.data.toList[8] = s[8] := rfl
        rw [this, hT]; rfl
      have hS := Va.sec_parts hp (by rw [List.length_take]; omega) (by rw [List.length_take, List.length_drop]; omega) (by rw [List.length_take, List.length_drop]; omega) d8 (by rw [List.length_take, List.length_drop]; omega) (by rw [List.length_take, List.length_drop]; omega) (by rw [List.length_drop]; omega)
      rw [hN] at hS
      have dA : Va.dgs (s.extract 0 4).data.toList = Va.dgs (s.data.toList.take 4) := by rw [ext_cut]; simp
      have kA : (s.extract 0 4).size ≤ 17 := by rw [Lib.size_eq, ext_cut, List.length_take]; omega
      have uA := Va.dgs_hi (l := s.data.toList.take 4) (k := 4) (by rw [List.length_take]; omega)
      have lA := Va.dgs_lo (s.data.toList.take 4)
      have dB : Va.dgs (s.extract 4 6).data.toList = Va.dgs ((s.data.toList.drop 4).take 2) := by rw [ext_cut]
      have kB : (s.extract 4 6).size ≤ 17 := by rw [Lib.size_eq, ext_cut, List.length_take]; omega
      have uB := Va.dgs_hi (l := (s.data.toList.drop 4).take 2) (k := 2) (by rw [List.length_take]; omega)
      have lB := Va.dgs_lo ((s.data.toList.drop 4).take 2)
      have dC : Va.dgs (s.extract 6 8).data.toList = Va.dgs ((s.data.toList.drop 6).take 2) := by rw [ext_cut]
      have kC : (s.extract 6 8).size ≤ 17 := by rw [Lib.size_eq, ext_cut, List.length_take]; omega
      have uC := Va.dgs_hi (l := (s.data.toList.drop 6).take 2) (k := 2) (by rw [List.length_take]; omega)
      have lC := Va.dgs_lo ((s.data.toList.drop 6).take 2)
      have dE : Va.dgs (s.extract 9 11).data.toList = Va.dgs ((s.data.toList.drop 9).take 2) := by rw [ext_cut]
      have kE : (s.extract 9 11).size ≤ 17 := by rw [Lib.size_eq, ext_cut, List.length_take]; omega
      have uE := Va.dgs_hi (l := (s.data.toList.drop 9).take 2) (k := 2) (by rw [List.length_take]; omega)
      have lE := Va.dgs_lo ((s.data.toList.drop 9).take 2)
      have dF : Va.dgs (s.extract 11 13).data.toList = Va.dgs ((s.data.toList.drop 11).take 2) := by rw [ext_cut]
      have kF : (s.extract 11 13).size ≤ 17 := by rw [Lib.size_eq, ext_cut, List.length_take]; omega
      have uF := Va.dgs_hi (l := (s.data.toList.drop 11).take 2) (k := 2) (by rw [List.length_take]; omega)
      have lF := Va.dgs_lo ((s.data.toList.drop 11).take 2)
      have dG : Va.dgs (s.extract 13 s.size).data.toList = Va.dgs (s.data.toList.drop 13) := by rw [ext_rest]
      have kG : (s.extract 13 s.size).size ≤ 17 := by rw [Lib.size_eq, ext_rest, List.length_drop]; omega
      have uG := Va.dgs_hi (l := s.data.toList.drop 13) (k := 2) (by rw [List.length_drop]; omega)
      have lG := Va.dgs_lo (s.data.toList.drop 13)
      generalize Va.dgs (s.data.toList.take 4) = A at *
      generalize Va.dgs ((s.data.toList.drop 4).take 2) = B at *
      generalize Va.dgs ((s.data.toList.drop 6).take 2) = C at *
      generalize Va.dgs ((s.data.toList.drop 9).take 2) = E at *
      generalize Va.dgs ((s.data.toList.drop 11).take 2) = F at *
      generalize Va.dgs (s.data.toList.drop 13) = G at *
      have DA := Lib.hid dA
      have KA := Lib.hid kA
      have DB := Lib.hid dB
      have KB := Lib.hid kB
      have DC := Lib.hid dC
      have KC := Lib.hid kC
      have DE := Lib.hid dE
      have KE := Lib.hid kE
      have DF := Lib.hid dF
      have KF := Lib.hid kF
      have DG := Lib.hid dG
      have KG := Lib.hid kG
      have HS := Lib.hid hS
      have k4 : (4 : Int) ≤ s.size := by omega
      have k13 : (13 : Int) ≤ s.size := by omega
      have k11 : (11 : Int) ≤ s.size := by omega
      have k6 : (6 : Int) ≤ s.size := by omega
      have k88 : (8 : Int) ≤ s.size := by omega
      have H15 := Lib.hid h15
      clear hS hN hz hp d8 l15 a8 h15 hT dA kA dB kB dC kC dE kE dF kF dG kG
      go_enter Tryz.func108, Tryz.ntmps108
      go_upto_region 3 with fail
      go_quiet ((go_at_call 107; exact qsame (digits12_any _ _ (by first | exact KA.out | exact KB.out | exact KC.out))))
      rw [DA.out, DB.out, DC.out]
      have hg := (Gr.refl w).drewN nq
      generalize w.drewN nq = w2 at *
      go_upto_region 4 with fail
      go_quiet ((go_at_call 107; exact qsame (digits12_any _ _ (by first | exact KE.out | exact KF.out | exact KG.out))))
      rw [DE.out, DF.out, DG.out]
      replace hg := hg.trans ((Gr.refl w2).drewN nq)
      generalize w2.drewN nq = w3 at *
      clear KA KB KC KE KF KG DA DB DC DE DF DG
      obtain ⟨ok, hok⟩ : ∃ ok : Bool, ok = decide (0 ≤ A ∧ 0 ≤ B ∧ 0 ≤ C ∧ 0 ≤ E ∧ 0 ≤ F ∧ 0 ≤ G ∧ E ≤ 23 ∧ F ≤ 59 ∧ G ≤ 59) := ⟨_, rfl⟩
      have HOK := Lib.hid hok
      clear hok
      go_upto_region 5 with fail
      go_cut [70] from 11 (fun v wx => v = .bool (!ok) ∧ w3 = wx)
      case first =>
        by_cases c0 : A < 0
        · have HF : Hid (ok = false) := Lib.hid (by rw [HOK.out]; exact decide_eq_false (by omega))
          clear HOK HS
          go_wp2
          go_meet
          case rel => exact ⟨by rw [HF.out] <;> rfl, rfl⟩
        have d0 : decide (A < 0) = false := decide_eq_false c0
        by_cases c1 : B < 0
        · have HF : Hid (ok = false) := Lib.hid (by rw [HOK.out]; exact decide_eq_false (by omega))
          clear HOK HS
          go_wp2
          go_meet
          case rel => exact ⟨by rw [HF.out] <;> rfl, rfl⟩
        have d1 : decide (B < 0) = false := decide_eq_false c1
        by_cases c2 : C < 0
        · have HF : Hid (ok = false) := Lib.hid (by rw [HOK.out]; exact decide_eq_false (by omega))
          clear HOK HS
          go_wp2
          go_meet
          case rel => exact ⟨by rw [HF.out] <;> rfl, rfl⟩
        have d2 : decide (C < 0) = false := decide_eq_false c2
        by_cases c3 : E < 0
        · have HF : Hid (ok = false) := Lib.hid (by rw [HOK.out]; exact decide_eq_false (by omega))
          clear HOK HS
          go_wp2
          go_meet
          case rel => exact ⟨by rw [HF.out] <;> rfl, rfl⟩
        have d3 : decide (E < 0) = false := decide_eq_false c3
        by_cases c4 : F < 0
        · have HF : Hid (ok = false) := Lib.hid (by rw [HOK.out]; exact decide_eq_false (by omega))
          clear HOK HS
          go_wp2
          go_meet
          case rel => exact ⟨by rw [HF.out] <;> rfl, rfl⟩
        have d4 : decide (F < 0) = false := decide_eq_false c4
        by_cases c5 : G < 0
        · have HF : Hid (ok = false) := Lib.hid (by rw [HOK.out]; exact decide_eq_false (by omega))
          clear HOK HS
          go_wp2
          go_meet
          case rel => exact ⟨by rw [HF.out] <;> rfl, rfl⟩
        have d5 : decide (G < 0) = false := decide_eq_false c5
        by_cases c6 : (23 : Int) < E
        · have HF : Hid (ok = false) := Lib.hid (by rw [HOK.out]; exact decide_eq_false (by omega))
          clear HOK HS
          go_wp2
          go_meet
          case rel => exact ⟨by rw [HF.out] <;> rfl, rfl⟩
        have d6 : decide ((23 : Int) < E) = false := decide_eq_false c6
        by_cases c7 : (59 : Int) < F
        · have HF : Hid (ok = false) := Lib.hid (by rw [HOK.out]; exact decide_eq_false (by omega))
          clear HOK HS
          go_wp2
          go_meet
          case rel => exact ⟨by rw [HF.out] <;> rfl, rfl⟩
        have d7 : decide ((59 : Int) < F) = false := decide_eq_false c7
        by_cases c8 : (59 : Int) < G
        · have HF : Hid (ok = false) := Lib.hid (by rw [HOK.out]; exact decide_eq_false (by omega))
          clear HOK HS
          go_wp2
          go_meet
          case rel => exact ⟨by rw [HF.out] <;> rfl, rfl⟩
        have d8 : decide ((59 : Int) < G) = false := decide_eq_false c8
        have HF : Hid (ok = true) := Lib.hid (by rw [HOK.out]; exact decide_eq_true (by omega))
        clear HOK HS
        go_wp2
        go_meet
        case rel => exact ⟨by rw [HF.out] <;> rfl, rfl⟩
      case rest =>
        obtain ⟨rfl, rfl⟩ := hcut
        rcases hk : ok
        · have hE : N = -1 := by
            rw [HS.out, if_neg]
            rintro ⟨h, _⟩
            have := HOK.out
            rw [hk] at this
            exact of_decide_eq_false this.symm h
          have HE := Lib.hid hE
          clear hE HS HOK hk
          go_wp2
          go_ret
          exact ⟨by rw [HE.out] <;> rfl, hg⟩
        · have hb : 0 ≤ A ∧ 0 ≤ B ∧ 0 ≤ C ∧ 0 ≤ E ∧ 0 ≤ F ∧ 0 ≤ G ∧ E ≤ 23 ∧ F ≤ 59 ∧ G ≤ 59 := by
            have := HOK.out
            rw [hk] at this
            exact of_decide_eq_true this.symm
          rcases ho : Cal.okB A B C
          · have hE : N = -1 := by
              rw [HS.out, if_neg]
              rintro ⟨_, h⟩
              rw [ho] at h; cases h
            have HE := Lib.hid hE
            have cD := fun w => refday0_no A B C w ho
            clear hE HS HOK hk ho
            go_wp2_with (go_at_call 144; refine (cD _).mono ?_; rintro e w4 ⟨rfl, hb4⟩)
            go_ret
            exact ⟨by rw [HE.out] <;> rfl, hg.trans hb4⟩
          · have hE : N = 86400 * Cal.num A B C + 3600 * E + 60 * F + G := by
              rw [HS.out, if_pos ⟨hb, ho⟩]
            have HE := Lib.hid hE
            have cD := fun w => refday0_yes A B C w ho
            have hn := Cal.dayB_iff.1 (Cal.dayB_iff.2 (Cal.num_bd ho))
            clear hE HS HOK hk ho
            generalize Cal.num A B C = n at *
            go_wp2_with (go_at_call 144; refine (cD _).mono ?_; rintro e w4 ⟨rfl, hb4⟩)
            go_ret
            exact ⟨by rw [HE.out] <;> rfl, hg.trans hb4⟩
    · have hE : N = -1 := by rw [← hN]; exact Va.secV_T (by rw [a8]; intro e; exact hT (Option.some.inj e))
      have HE := Lib.hid hE
      have b1 : ((s[8].toNat : Int) != 84) = true := by
        rw [bne_iff_ne]; intro e; exact hT (UInt8.toNat_inj.1 (by have : (84 : UInt8).toNat = 84 := rfl
                                                                  omega))
      clear hE hN hz hT a8 h15
      go_enter Tryz.func108, Tryz.ntmps108
      go_wp2
      go_ret
      exact ⟨by rw [HE.out] <;> rfl, Gr.refl _⟩
  · have hE : N = -1 := by rw [← hN]; exact Va.secV_len (by rw [← hz]; exact h15)
    have HE := Lib.hid hE
    have q1 : ((s.size : Int) != 15) = true := by rw [bne_iff_ne]; omega
    clear hE hN hz h15
    go_enter Tryz.func108, Tryz.ntmps108
    go_wp2
    go_ret
    exact ⟨by rw [HE.out] <;> rfl, Gr.refl _⟩
end Go.Proofs.YtleeklcpbflfhaaGreatDoor
