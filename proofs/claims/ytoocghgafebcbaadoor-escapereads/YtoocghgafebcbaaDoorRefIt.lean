/- What the reference's Items returns. -/
import Derived.Test.YtoocghgafebcbaaDoorRefTx
import Derived.Test.YtoocghgafebcbaaDoorEsPl
namespace Go.Proofs.YtoocghgafebcbaaDoor
open Go.RowKit

namespace Es
def riE (l : List UInt8) : Int := if Lib.validD l = false then 3 else match fin l with | none => 7 | some _ => 0
def riT (l : List UInt8) : List (List UInt8) := if Lib.validD l = false then [] else (fin l).getD []
theorem ri_utf {l : List UInt8} (h : Lib.validD l = false) : riE l = 3 ∧ riT l = [] := by unfold riE riT; rw [if_pos h, if_pos h]; exact ⟨rfl, rfl⟩
theorem ri_none {l : List UInt8} (h : Lib.validD l = true) (h2 : fin l = none) : riE l = 7 ∧ riT l = [] := by unfold riE riT; rw [if_neg (by simp [h]), if_neg (by simp [h]), h2]; exact ⟨rfl, rfl⟩
theorem ri_some {l : List UInt8} {ts : List (List UInt8)} (h : Lib.validD l = true) (h2 : fin l = some ts) : riE l = 0 ∧ riT l = ts := by unfold riE riT; rw [if_neg (by simp [h]), if_neg (by simp [h]), h2]; exact ⟨rfl, rfl⟩
theorem ri_cl {l : List UInt8} (h : clE false l ≠ 0) : riE l = clE false l ∧ riT l = [] := by
  by_cases hv : Lib.validD l = false
  · rw [clE_utf hv]; exact ri_utf hv
  · have hv' : Lib.validD l = true := by simpa using hv
    by_cases hb : l.any (bad false) = false
    · exact absurd (clE_ok hv' hb) h
    · have hb' : l.any (bad false) = true := by simpa using hb
      rw [clE_val hv' hb']; exact ri_none hv' (fin_bad hb')
theorem ri_zero {l : List UInt8} (h : clE false l = 0) : (rd [] l = none → riE l = 7 ∧ riT l = []) ∧ (∀ ts, rd [] l = some ts → riE l = 0 ∧ riT l = ts) := by
  obtain ⟨h1, h2⟩ := clE_zero h
  exact ⟨fun e => ri_none h1 (by rw [fin_ok h2]; exact e), fun t e => ri_some h1 (by rw [fin_ok h2]; exact e)⟩
theorem mapA_nil (x : Option (List (List UInt8))) : x.map ([] ++ ·) = x := by cases x <;> rfl
theorem mapA_none (acc : List (List UInt8)) : (none : Option (List (List UInt8))).map (acc ++ ·) = none := rfl
theorem mapA_step (acc : List (List UInt8)) (t : List UInt8) (x : Option (List (List UInt8))) : (x.map (t :: ·)).map (acc ++ ·) = x.map ((acc ++ [t]) ++ ·) := by cases x <;> simp
end Es
/- append(out, bytes..), beside a row of texts -/
theorem ap_bytes2 {ops : Array Oper} {rest : List Oper} {o : Oper} {a : Act} {Q : Exit → Act → World → Prop} (w : World) (hgd : o.guard = none) (sl x : Operand)
    (ho : o.op = .call { callee := .builtin .append, args := #[sl, x], argTypes := #[35, 35] })
    (B : Nat) (A : Option Addr) (n c : Nat) (l t : List UInt8) (hs : a.eval sl = .slice A n c) (hown : OwnV w B 5 A n c (bc l)) (m c2 : Nat) (hx : a.eval x = .slice (some ⟨w.heap.size, 0, none⟩) m c2)
    (hm : t.length = m) (hlen : n + m ≤ 1000000) (hB : B ≤ w.heap.size) (A2 : Option Addr) (n2 c3 : Nat) (ys : List Value) (h2 : OwnV w B 9 A2 n2 c3 ys)
    (h : ∀ A' c' w', OwnV w' B 5 A' (n + m) c' (bc (l ++ t)) → Below B w w' → OwnV w' B 9 A2 n2 c3 ys → wpList Tryd.prog ops Q rest (a.put o.dst (.slice A' (n + m) c')) w') : wpList Tryd.prog ops Q (o :: rest) a (w.alloc (.cells (bc t).toArray 5)) := by
  refine ap_two w hgd sl x 35 5 (.int .u8 0) 1 Tryd.underlying35 info_u8 rfl (by omega) ho B A n c (bc l) (bc t) hs hown m c2 hx (by simpa [bc] using hm) ?_ hlen hB 9 A2 n2 c3 ys h2 (by decide) ?_
  · intro u hu
    obtain ⟨b, _, rfl⟩ := List.mem_map.1 hu
    rfl
  · intro A' c' w' h1 h3 h4
    rw [← bc_append] at h1
    exact h A' c' w' h1 h3 h4
set_option maxHeartbeats 8000000 in
set_option maxRecDepth 100000 in
theorem refitems_any (s : ByteArray) (w : World) (hs : s.size ≤ 400000) :
    Calls Tryd.prog 12 #[.string s] w fun e w' => ∃ A n c, e = .returned (.tuple #[.slice A n c, .int .i64 (Es.riE s.data.toList)]) ∧ OwnV w' w.heap.size 9 A n c (sc (Es.riT s.data.toList)) ∧ Gr w w' := by
  have cC := clean_any false s w (by omega)
  by_cases hE : Es.clE false s.data.toList = 0
  · obtain ⟨hN, hY⟩ := Es.ri_zero hE
    rw [hE] at cC
    obtain ⟨R, hR⟩ : ∃ R, Es.rd [] s.data.toList = R := ⟨_, rfl⟩
    rw [hR] at hN hY
    generalize Es.riE s.data.toList = E at *
    generalize Es.riT s.data.toList = T at *
    have HN := Lib.hid hN
    have HY := Lib.hid hY
    have HR := Lib.hid hR
    clear hN hY hR hE
    go_enter Tryd.func12, Tryd.ntmps12
    go_wp2_with (go_at_call 18; refine cC.mono ?_; rintro e w1 ⟨rfl, rfl⟩)
    go_loopg [5, 6, 7] s.size (fun g v5 v6 v wx => ∃ A5 n5 c5 out A6 n6 c6 one, ∃ i : Nat, v5 = .slice A5 n5 c5 ∧ v6 = .slice A6 n6 c6 ∧ v = .int .i64 (i : Int) ∧ i + g = s.size ∧ Below w.heap.size w wx ∧ w.heap.size ≤ wx.heap.size ∧ n5 ≤ i ∧ n6 ≤ i ∧ OwnV wx w.heap.size 9 A5 n5 c5 (sc out) ∧ OwnV wx w.heap.size 5 A6 n6 c6 (bc one) ∧ Hid ((Es.rd one (s.data.toList.drop i)).map (out ++ ·) = R))
    case atStart => exact ⟨_, _, _, [], _, _, _, [], 0, rfl, rfl, rfl, by omega, Below.refl _ _, Nat.le_refl _, by omega, by omega, OwnV.nil _ _ _, OwnV.nil _ _ _, Lib.hid (by rw [List.drop_zero, HR.out, Es.mapA_nil])⟩
    case round =>
      obtain ⟨A5, n5, c5, out, A6, n6, c6, one, i, rfl, rfl, rfl, hig, hb2, hsz2, hn5, hn6, hown5, hown6, HA⟩ := hrel
      have HG := Lib.hid hig
      clear hig
      by_cases hi : i < s.size
      · have hd := drop_at s i hi
        have ha := HA.out
        rw [hd] at ha
        cases h44 : ((s[i].toNat : Int) == 44)
        · cases h59 : ((s[i].toNat : Int) == 59)
          · cases h92 : ((s[i].toNat : Int) == 92)
            · have h92n : ((s[i].toNat : Int) != 92) = true := by rw [bne, h92]; rfl
              rw [Es.rd_plain _ _ _ (by_f 44 h44) (by_f 59 h59) (by_f 92 h92)] at ha
              have HB := Lib.hid ha
              clear ha hd
              go_wp2_with (at_builtin; refine ap_bytes2 wr rfl (.tmp 37) (.tmp 39) rfl w.heap.size A6 n6 c6 one [s[i]] rfl hown6 1 1 rfl rfl (by omega) hsz2 A5 n5 c5 (sc out) hown5 ?_; intro A3 c3 w3 hown3 hb3 hown4)
              go_roundg (s.size - (i + 1))
              case measure => have := HG.out; omega
              case rel => exact ⟨_, _, _, out, _, _, _, _, i + 1, rfl, rfl, by go_num, by omega, hb2.trans hb3, by have := hb3.size; omega, by omega, by omega, hown4, hown3, HB⟩
            · have h92n : ((s[i].toNat : Int) != 92) = false := by rw [bne, h92]; rfl
              rw [by_t 92 h92] at ha
              by_cases hi2 : i + 1 < s.size
              · have hi2e : (((i : Int) + 1) == (s.size : Int)) = false := by rw [beq_eq_false_iff_ne]; omega
                have hd2 := drop_at s (i + 1) hi2
                cases h110 : ((s[i + 1].toNat : Int) == 110)
                · cases h78 : ((s[i + 1].toNat : Int) == 78)
                  · cases g92 : ((s[i + 1].toNat : Int) == 92)
                    · cases g59 : ((s[i + 1].toNat : Int) == 59)
                      · cases g44 : ((s[i + 1].toNat : Int) == 44)
                        · have hab : Es.ab (s.data.toList.drop (i + 1)) = none := by rw [hd2]; exact Es.ab_no (by_f 110 h110) (by_f 78 h78) (by_f 92 g92) (by_f 59 g59) (by_f 44 g44)
                          rw [Es.rd_back_none _ _ hab, Es.mapA_none] at ha
                          have HB := Lib.hid (HN.out ha.symm)
                          clear ha hd hd2 hab
                          go_wp2
                          go_ret2
                          rw [HB.out.1, HB.out.2]
                          exact ⟨_, _, _, rfl, OwnV.nil _ _ _, ⟨hb2⟩⟩
                        · have hab : Es.ab (s.data.toList.drop (i + 1)) = some s[i + 1] := by rw [hd2]; exact Es.ab_c (.inr (.inr (by_t 44 g44)))
                          rw [Es.rd_back_some _ _ _ hab, tail_drop] at ha
                          have HB := Lib.hid ha
                          clear ha hd hd2 hab
                          go_wp2_with (at_builtin; refine ap_bytes2 wr rfl (.tmp 85) (.tmp 90) rfl w.heap.size A6 n6 c6 one [s[i + 1]] rfl hown6 1 1 rfl rfl (by omega) hsz2 A5 n5 c5 (sc out) hown5 ?_; intro A3 c3 w3 hown3 hb3 hown4)
                          go_roundg (s.size - (i + 2))
                          case measure => have := HG.out; omega
                          case rel => exact ⟨_, _, _, out, _, _, _, _, i + 2, rfl, rfl, by go_num, by omega, hb2.trans hb3, by have := hb3.size; omega, by omega, by omega, hown4, hown3, HB⟩
                      · have hab : Es.ab (s.data.toList.drop (i + 1)) = some s[i + 1] := by rw [hd2]; exact Es.ab_c (.inr (.inl (by_t 59 g59)))
                        rw [Es.rd_back_some _ _ _ hab, tail_drop] at ha
                        have HB := Lib.hid ha
                        clear ha hd hd2 hab
                        go_wp2_with (at_builtin; refine ap_bytes2 wr rfl (.tmp 85) (.tmp 90) rfl w.heap.size A6 n6 c6 one [s[i + 1]] rfl hown6 1 1 rfl rfl (by omega) hsz2 A5 n5 c5 (sc out) hown5 ?_; intro A3 c3 w3 hown3 hb3 hown4)
                        go_roundg (s.size - (i + 2))
                        case measure => have := HG.out; omega
                        case rel => exact ⟨_, _, _, out, _, _, _, _, i + 2, rfl, rfl, by go_num, by omega, hb2.trans hb3, by have := hb3.size; omega, by omega, by omega, hown4, hown3, HB⟩
                    · have hab : Es.ab (s.data.toList.drop (i + 1)) = some s[i + 1] := by rw [hd2]; exact Es.ab_c (.inl (by_t 92 g92))
                      rw [Es.rd_back_some _ _ _ hab, tail_drop] at ha
                      have HB := Lib.hid ha
                      clear ha hd hd2 hab
                      go_wp2_with (at_builtin; refine ap_bytes2 wr rfl (.tmp 85) (.tmp 90) rfl w.heap.size A6 n6 c6 one [s[i + 1]] rfl hown6 1 1 rfl rfl (by omega) hsz2 A5 n5 c5 (sc out) hown5 ?_; intro A3 c3 w3 hown3 hb3 hown4)
                      go_roundg (s.size - (i + 2))
                      case measure => have := HG.out; omega
                      case rel => exact ⟨_, _, _, out, _, _, _, _, i + 2, rfl, rfl, by go_num, by omega, hb2.trans hb3, by have := hb3.size; omega, by omega, by omega, hown4, hown3, HB⟩
                  · have hab : Es.ab (s.data.toList.drop (i + 1)) = some 10 := by rw [hd2]; exact Es.ab_n (.inr (by_t 78 h78))
                    rw [Es.rd_back_some _ _ _ hab, tail_drop] at ha
                    have HB := Lib.hid ha
                    clear ha hd hd2 hab
                    go_wp2_with (at_builtin; refine ap_bytes2 wr rfl (.tmp 60) (.tmp 61) rfl w.heap.size A6 n6 c6 one [10] rfl hown6 1 1 rfl rfl (by omega) hsz2 A5 n5 c5 (sc out) hown5 ?_; intro A3 c3 w3 hown3 hb3 hown4)
                    go_roundg (s.size - (i + 2))
                    case measure => have := HG.out; omega
                    case rel => exact ⟨_, _, _, out, _, _, _, _, i + 2, rfl, rfl, by go_num, by omega, hb2.trans hb3, by have := hb3.size; omega, by omega, by omega, hown4, hown3, HB⟩
                · have hab : Es.ab (s.data.toList.drop (i + 1)) = some 10 := by rw [hd2]; exact Es.ab_n (.inl (by_t 110 h110))
                  rw [Es.rd_back_some _ _ _ hab, tail_drop] at ha
                  have HB := Lib.hid ha
                  clear ha hd hd2 hab
                  go_wp2_with (at_builtin; refine ap_bytes2 wr rfl (.tmp 60) (.tmp 61) rfl w.heap.size A6 n6 c6 one [10] rfl hown6 1 1 rfl rfl (by omega) hsz2 A5 n5 c5 (sc out) hown5 ?_; intro A3 c3 w3 hown3 hb3 hown4)
                  go_roundg (s.size - (i + 2))
                  case measure => have := HG.out; omega
                  case rel => exact ⟨_, _, _, out, _, _, _, _, i + 2, rfl, rfl, by go_num, by omega, hb2.trans hb3, by have := hb3.size; omega, by omega, by omega, hown4, hown3, HB⟩
              · have hi2e : (((i : Int) + 1) == (s.size : Int)) = true := by rw [beq_iff_eq]; omega
                have hab : Es.ab (s.data.toList.drop (i + 1)) = none := by rw [drop_end s (i + 1) (by omega)]; rfl
                rw [Es.rd_back_none _ _ hab, Es.mapA_none] at ha
                have HB := Lib.hid (HN.out ha.symm)
                clear ha hd hab
                go_wp2
                go_ret2
                rw [HB.out.1, HB.out.2]
                exact ⟨_, _, _, rfl, OwnV.nil _ _ _, ⟨hb2⟩⟩
          · rw [by_t 59 h59, Es.rd_semi, Es.mapA_none] at ha
            have HB := Lib.hid (HN.out ha.symm)
            clear ha hd
            go_wp2
            go_ret2
            rw [HB.out.1, HB.out.2]
            exact ⟨_, _, _, rfl, OwnV.nil _ _ _, ⟨hb2⟩⟩
        · rw [by_t 44 h44, Es.rd_comma, Es.mapA_step] at ha
          have HB := Lib.hid ha
          have hcv := conv_back hown6
          clear ha hd
          generalize hpt : (ByteArray.mk one.toArray) = pt at *
          have HP := Lib.hid hpt
          clear hpt
          go_wp2_with (at_builtin; refine ap_lit wr rfl (.tmp 26) (.tmp 29) 27 9 (.string ⟨#[]⟩) 16 Tryd.underlying27 info_str rfl (by omega) rfl w.heap.size A5 n5 c5 (sc out) [.string pt] rfl hown5 1 1 rfl rfl (by intro u hu; simp at hu; subst hu; rfl) (by omega) hsz2 ?_; intro A3 c3 w3 hown3 hb3)
          go_roundg (s.size - (i + 1))
          case measure => have := HG.out; omega
          case rel =>
            refine ⟨_, _, _, out ++ [one], _, _, _, [], i + 1, rfl, rfl, by go_num, by omega, hb2.trans hb3, by have := hb3.size; omega, by omega, by omega, ?_, OwnV.nil _ _ _, HB⟩
            rw [sc_append]
            show OwnV w3 w.heap.size 9 A3 (n5 + 1) c3 (sc out ++ [Value.string ⟨one.toArray⟩])
            rw [HP.out]
            exact hown3
      · have ha := HA.out
        rw [drop_end s i (by omega), Es.rd_nil] at ha
        have HB := Lib.hid (HY.out (out ++ [one]) ha.symm)
        obtain rfl : i = s.size := by have := HG.out; omega
        clear ha
        have hcv := conv_back hown6
        generalize hpt : (ByteArray.mk one.toArray) = pt at *
        have HP := Lib.hid hpt
        clear hpt
        go_wp2_with (at_builtin; refine ap_lit wr rfl (.tmp 94) (.tmp 97) 27 9 (.string ⟨#[]⟩) 16 Tryd.underlying27 info_str rfl (by omega) rfl w.heap.size A5 n5 c5 (sc out) [.string pt] rfl hown5 1 1 rfl rfl (by intro u hu; simp at hu; subst hu; rfl) (by omega) hsz2 ?_; intro A3 c3 w3 hown3 hb3)
        go_ret2
        rw [HB.out.1, HB.out.2]
        refine ⟨_, _, _, rfl, ?_, ⟨hb2.trans hb3⟩⟩
        rw [sc_append]
        show OwnV w3 w.heap.size 9 A3 (n5 + 1) c3 (sc out ++ [Value.string ⟨one.toArray⟩])
        rw [HP.out]
        exact hown3
  · obtain ⟨e1, e2⟩ := Es.ri_cl hE
    rw [e1, e2]
    have hEn : ((Es.clE false s.data.toList : Int) != 0) = true := by simpa using hE
    generalize Es.clE false s.data.toList = E at *
    clear hE e1 e2
    go_enter Tryd.func12, Tryd.ntmps12
    go_wp2_with (go_at_call 18; refine cC.mono ?_; rintro e w1 ⟨rfl, rfl⟩)
    go_ret2
    exact ⟨_, _, _, rfl, OwnV.nil _ _ _, Gr.refl _⟩
end Go.Proofs.YtoocghgafebcbaaDoor
