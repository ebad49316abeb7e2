/- What the reference's ParseOffset returns. -/
import Derived.Test.YtafpdiikhhikeaaDoorVaPo
namespace Go.Proofs.YtafpdiikhhikeaaDoor
open Go.RowKit

theorem ext_ab (x : ByteArray) (a b : Nat) (h : a + 2 = b) : (x.extract a b).data.toList = (x.data.toList.drop a).take 2 := by
  rw [Lib.extract_data, show b - a = 2 by omega]
theorem ext_end (x : ByteArray) (a : Nat) : (x.extract a x.size).data.toList = x.data.toList.drop a := by
  rw [Lib.extract_data]
  refine List.take_of_length_le ?_
  rw [List.length_drop, ← Lib.size_eq]; omega
set_option maxRecDepth 100000 in
set_option maxHeartbeats 4000000 in
theorem rpoffset_any (s : ByteArray) (w : World) (hl : s.size ≤ 1000000) :
    Calls Tryd.prog 18 #[.string s] w fun e w' => e = .returned (Va.opV (Va.po s.data.toList)) ∧ Gr w w' := by
  have hz := Lib.size_eq s
  obtain ⟨N, hN⟩ : ∃ N, Va.po s.data.toList = N := ⟨_, rfl⟩
  rw [hN]
  have HN := Lib.hid hN
  clear hN
  go_enter Tryd.func18, Tryd.ntmps18
  go_upto_region 1 with fail
  go_cut [10] from 8 (fun v wx => ∃ b : Bool, v = .bool b ∧ w = wx ∧ Hid ((b = true → s.size = 5) ∧ (b = false → s.size ≠ 5)))
  case first =>
    by_cases h5 : s.size = 5
    · have q1 : ((s.size : Int) == 5) = true := by rw [beq_iff_eq]; omega
      have H5 := Lib.hid h5
      clear h5 hz
      go_wp2
      go_meet
      case rel => exact ⟨true, by first | rfl | rw [q1], rfl, Lib.hid ⟨fun _ => H5.out, fun h => by (cases h)⟩⟩
    · have q1 : ((s.size : Int) == 5) = false := by rw [beq_eq_false_iff_ne]; omega
      have H5 := Lib.hid h5
      clear h5 hz
      go_wp2
      go_meet
      case rel => exact ⟨false, by first | rfl | rw [q1], rfl, Lib.hid ⟨fun h => by (cases h), fun _ => H5.out⟩⟩
  case rest =>
  obtain ⟨b, rfl, rfl, HB⟩ := hcut
  go_upto_if 10 with fail
  go_cut [0] from 8 (fun v0 wx => ∃ x : ByteArray, v0 = .string x ∧ w = wx ∧ x.size ≤ 1000002 ∧ Hid ((x.size ≠ 7 ∧ s.size ≠ 5 ∧ s.size ≠ 7) ∨ ((s.size = 5 ∨ s.size = 7) ∧ ∃ (h : 0 < s.size), x.data.toList = s[0] :: Va.six s.data.toList.tail)))
  case first =>
    rcases b
    rotate_left
    · have h5 := HB.out.1 rfl
      have h0 : 0 < s.size := by omega
      have hX : (s ++ ⟨#[48, 48]⟩).data.toList = s[0] :: Va.six s.data.toList.tail := by
        unfold Va.six
        rw [if_pos (by rw [List.length_tail, ← hz]; omega), ByteArray.data_append, Array.toList_append]
        conv => lhs; rw [cons_at s h0]
        rfl
      have hS : (s ++ ⟨#[48, 48]⟩).size ≤ 1000002 := by
        rw [ByteArray.size_append]; show s.size + 2 ≤ _; omega
      have HX := Lib.hid hX
      have H5 := Lib.hid h5
      have HS := Lib.hid hS
      have H0 := Lib.hid h0
      clear h5 hX hz hS
      go_wp2
      go_meet
      case rel => exact ⟨_, rfl, rfl, HS.out, Lib.hid (.inr ⟨.inl H5.out, H0.out, HX.out⟩)⟩
    · have h5 := HB.out.2 rfl
      have hX : (s.size ≠ 7 ∧ s.size ≠ 5 ∧ s.size ≠ 7) ∨ ((s.size = 5 ∨ s.size = 7) ∧ ∃ (h : 0 < s.size), s.data.toList = s[0] :: Va.six s.data.toList.tail) := by
        by_cases h7 : s.size = 7
        · right
          refine ⟨.inr h7, by omega, ?_⟩
          unfold Va.six
          rw [if_neg (by rw [List.length_tail, ← hz]; omega)]
          exact cons_at s (by omega)
        · exact .inl ⟨h7, h5, h7⟩
      have HX := Lib.hid hX
      clear h5 hX hz
      go_wp2
      go_meet
      case rel => exact ⟨_, rfl, rfl, by omega, HX⟩
  case rest =>
    obtain ⟨x, rfl, rfl, hxl, HX⟩ := hcut
    have hxz := Lib.size_eq x
    rcases HX.out with ⟨h7, h5, h7s⟩ | ⟨hs, h0, hx⟩
    · have hE : N = none := by rw [← HN.out]; exact Va.po_len (by omega) (by omega)
      have HE := Lib.hid hE
      have q1 : ((x.size : Int) != 7) = true := by rw [bne_iff_ne]; omega
      clear hE h7 h5 h7s HX HN hz hxz
      go_wp2
      go_ret2
      exact ⟨by rw [HE.out] <;> rfl, Gr.refl _⟩
    · have htl : s.data.toList.tail.length = s.size - 1 := by rw [List.length_tail, ← hz]
      have h6 : (Va.six s.data.toList.tail).length = 6 := Va.six_len (by omega)
      have hx7 : x.size = 7 := by rw [hxz, hx, List.length_cons, h6]
      have q1 : ((x.size : Int) != 7) = false := by rw [bne_eq_false_iff_eq]; omega
      have hx0 : 0 < x.size := by omega
      have hxs : x[0] = s[0] := by
        have := head_at x hx0
        rw [hx] at this
        exact (Option.some.inj this).symm
      have hN2 : N = Va.po (x[0] :: s.data.toList.tail) := by rw [← HN.out, hxs, ← cons_at s h0]
      obtain ⟨a, b, c, e1, la, lb, lc, ta, tb, tc⟩ := Va.six_split h6
      have kA : (x.extract 1 3).size ≤ 17 := by rw [Lib.size_eq, ext_ab x 1 3 rfl, List.length_take]; omega
      have kB : (x.extract 3 5).size ≤ 17 := by rw [Lib.size_eq, ext_ab x 3 5 rfl, List.length_take]; omega
      have kC : (x.extract 5 x.size).size ≤ 17 := by rw [Lib.size_eq, ext_end x 5, List.length_drop, ← hxz]; omega
      have dA : Va.dgs (x.extract 1 3).data.toList = Va.dgs a := by rw [ext_ab x 1 3 rfl, hx, List.drop_succ_cons, List.drop_zero, ta]
      have dB : Va.dgs (x.extract 3 5).data.toList = Va.dgs b := by rw [ext_ab x 3 5 rfl, hx, List.drop_succ_cons, tb]
      have dC : Va.dgs (x.extract 5 x.size).data.toList = Va.dgs c := by rw [ext_end x 5, hx, List.drop_succ_cons, tc]
      obtain ⟨p1, p2⟩ := Va.ofB_parts la lb lc
      have hpo := fun k => @Va.po_bad k s.data.toList.tail
      have hps := fun k => @Va.po_sign k s.data.toList.tail
      have hpz := @Va.po_zero s.data.toList.tail
      have hpn := @Va.po_neg s.data.toList.tail
      have hpp := @Va.po_pos s.data.toList.tail
      rw [e1] at hpo hpz hpn hpp
      generalize hzz : a ++ b ++ c = z at *
      have bA : -1 ≤ Va.dgs a ∧ Va.dgs a ≤ 99 := by
        rcases h : a.all Txt.isD
        · rw [(Va.dgs_two la).2 h]; omega
        · have := (Va.dgs_two la).1 h; omega
      have bB : -1 ≤ Va.dgs b ∧ Va.dgs b ≤ 99 := by
        rcases h : b.all Txt.isD
        · rw [(Va.dgs_two lb).2 h]; omega
        · have := (Va.dgs_two lb).1 h; omega
      have bC : -1 ≤ Va.dgs c ∧ Va.dgs c ≤ 99 := by
        rcases h : c.all Txt.isD
        · rw [(Va.dgs_two lc).2 h]; omega
        · have := (Va.dgs_two lc).1 h; omega
      generalize Va.dgs a = A at *
      generalize Va.dgs b = B at *
      generalize Va.dgs c = C at *
      have KA := Lib.hid kA
      have KB := Lib.hid kB
      have KC := Lib.hid kC
      have DA := Lib.hid dA
      have DB := Lib.hid dB
      have DC := Lib.hid dC
      clear kA kB kC dA dB dC
      have P1 := Lib.hid p1
      have P2 := Lib.hid p2
      have HN2 := Lib.hid hN2
      have hx0i : (0 : Int) < x.size := by omega
      have H7 := Lib.hid hx7
      clear p1 p2 hN2 ta tb tc e1 hzz la lb lc h6 htl hx hxs hs HX HN hz hxz hx7
      by_cases hc : x[0] = 43 ∨ x[0] = 45
      · go_upto_region 3 with fail
        go_cut [25] from 8 (fun v wx => v = .bool false ∧ w = wx)
        case first =>
          rcases hc with hc | hc
          · have b1 : ((x[0].toNat : Int) != 43) = false := by rw [hc]; rfl
            clear hc hpo hps hpz hpn hpp
            go_wp2
            go_meet
            case rel => exact ⟨rfl, rfl⟩
          · have b1 : ((x[0].toNat : Int) != 43) = true := by rw [hc]; rfl
            have b2 : ((x[0].toNat : Int) != 45) = false := by rw [hc]; rfl
            clear hc hpo hps hpz hpn hpp
            go_wp2
            go_meet
            case rel => exact ⟨rfl, rfl⟩
        case rest =>
          obtain ⟨rfl, rfl⟩ := hcut
          have k1 : (3 : Int) ≤ x.size := by have := H7.out; omega
          have k2 : (5 : Int) ≤ x.size := by have := H7.out; omega
          have HC := Lib.hid hc
          clear hc
          go_wp2_with fail
          go_quiet ((go_at_call 38; exact qsame (digits12_any _ _ (by first | exact KA.out | exact KB.out | exact KC.out))))
          rw [DA.out, DB.out, DC.out]
          have hgd := (Gr.refl w).drewN nq
          generalize w.drewN nq = w2 at *
          clear KA KB KC DA DB DC HB
          go_upto_region 6 with fail
          go_cut [56] from 8 (fun v wx => v = .bool (!Va.ofB z) ∧ w2 = wx)
          case first =>
            clear hpo hps hpz hpn hpp HN2 HC P2
            by_cases c0 : A < 0
            · have hb : Va.ofB z = false := by rw [P1.out]; simp; omega
              have HF := Lib.hid hb
              clear hb
              go_wp2
              go_meet
              case rel => exact ⟨by rw [HF.out] <;> rfl, rfl⟩
            have d0 : decide (A < 0) = false := decide_eq_false c0
            by_cases c1 : B < 0
            · have hb : Va.ofB z = false := by rw [P1.out]; simp; omega
              have HF := Lib.hid hb
              clear hb
              go_wp2
              go_meet
              case rel => exact ⟨by rw [HF.out] <;> rfl, rfl⟩
            have d1 : decide (B < 0) = false := decide_eq_false c1
            by_cases c2 : C < 0
            · have hb : Va.ofB z = false := by rw [P1.out]; simp; omega
              have HF := Lib.hid hb
              clear hb
              go_wp2
              go_meet
              case rel => exact ⟨by rw [HF.out] <;> rfl, rfl⟩
            have d2 : decide (C < 0) = false := decide_eq_false c2
            by_cases c3 : (23 : Int) < A
            · have hb : Va.ofB z = false := by rw [P1.out]; simp; omega
              have HF := Lib.hid hb
              clear hb
              go_wp2
              go_meet
              case rel => exact ⟨by rw [HF.out] <;> rfl, rfl⟩
            have d3 : decide ((23 : Int) < A) = false := decide_eq_false c3
            by_cases c4 : (59 : Int) < B
            · have hb : Va.ofB z = false := by rw [P1.out]; simp; omega
              have HF := Lib.hid hb
              clear hb
              go_wp2
              go_meet
              case rel => exact ⟨by rw [HF.out] <;> rfl, rfl⟩
            have d4 : decide ((59 : Int) < B) = false := decide_eq_false c4
            by_cases c5 : (59 : Int) < C
            · have hb : Va.ofB z = false := by rw [P1.out]; simp; omega
              have HF := Lib.hid hb
              clear hb
              go_wp2
              go_meet
              case rel => exact ⟨by rw [HF.out] <;> rfl, rfl⟩
            have d5 : decide ((59 : Int) < C) = false := decide_eq_false c5
            have hb : Va.ofB z = true := by rw [P1.out]; simp; omega
            have HF := Lib.hid hb
            clear hb
            go_wp2
            go_meet
            case rel => exact ⟨by rw [HF.out] <;> rfl, rfl⟩
          case rest =>
            obtain ⟨rfl, rfl⟩ := hcut
            rcases hb : Va.ofB z
            · have hE : N = none := by rw [HN2.out]; exact hpo _ hb
              have HE := Lib.hid hE
              clear hE hpo hps hpz hpn hpp hb P2
              go_wp2
              go_ret2
              exact ⟨by rw [HE.out] <;> rfl, hgd⟩
            · obtain ⟨ov, oz⟩ := P2.out hb
              have hbs : 0 ≤ A ∧ 0 ≤ B ∧ 0 ≤ C ∧ A ≤ 23 ∧ B ≤ 59 ∧ C ≤ 59 := by
                have := P1.out
                rw [hb] at this
                simp at this
                omega
              rcases HC.out with hc | hc
              · have hE : N = some (3600 * A + 60 * B + C) := by rw [HN2.out, hc, ← ov]; exact hpp hb
                have HE := Lib.hid hE
                have b1 : ((x[0].toNat : Int) == 45) = false := by rw [hc]; rfl
                clear hE hpo hps hpz hpn hpp hc hb P2 HC ov oz
                go_wp2
                go_ret2
                exact ⟨by rw [HE.out] <;> rfl, hgd⟩
              · have b1 : ((x[0].toNat : Int) == 45) = true := by rw [hc]; rfl
                by_cases hv0 : 3600 * A + 60 * B + C = 0
                · have hE : N = none := by rw [HN2.out, hc]; exact hpz (oz.2 hv0)
                  have HE := Lib.hid hE
                  have z0 : (3600 * A + 60 * B + C == 0) = true := by rw [beq_iff_eq]; omega
                  have hv0 := Lib.hid hv0
                  clear hE hpo hps hpz hpn hpp hc hb P2 HC ov oz
                  go_wp2
                  go_ret2
                  exact ⟨by rw [HE.out] <;> rfl, hgd⟩
                · have hE : N = some (-(3600 * A + 60 * B + C)) := by rw [HN2.out, hc, ← ov]; exact hpn hb (fun h => hv0 (oz.1 h))
                  have HE := Lib.hid hE
                  have z0 : (3600 * A + 60 * B + C == 0) = false := by rw [beq_eq_false_iff_ne]; omega
                  clear hE hpo hps hpz hpn hpp hc hb P2 HC ov oz hv0
                  go_wp2
                  go_ret2
                  exact ⟨by rw [HE.out] <;> rfl, hgd⟩
      · have hE : N = none := by rw [HN2.out]; exact hps _ (fun e => hc (.inl e)) (fun e => hc (.inr e))
        have HE := Lib.hid hE
        have b1 : ((x[0].toNat : Int) != 43) = true := bn 43 (fun e => hc (.inl e))
        have b2 : ((x[0].toNat : Int) != 45) = true := bn 45 (fun e => hc (.inr e))
        clear hE hc hpo hps hpz hpn hpp
        go_wp2
        go_ret2
        exact ⟨by rw [HE.out] <;> rfl, Gr.refl _⟩
end Go.Proofs.YtafpdiikhhikeaaDoor
