/- What the reference's Value returns. -/
import Derived.Test.YtoocghgafebcbaaDoorRefTx
import Derived.Test.YtoocghgafebcbaaDoorEsVa
namespace Go.Proofs.YtoocghgafebcbaaDoor
open Go.RowKit

theorem extract_mid9 (s : ByteArray) (a b : Nat) : s.extract a b = ⟨((s.data.toList.take b).drop a).toArray⟩ := str_data (by
  simp only [ByteArray.data_extract, Array.toList_extract, List.extract_eq_take_drop]
  rw [List.drop_take])
namespace Es
theorem tail_last (l : List UInt8) (m : Nat) (h : l.length = m + 1) (hm : 1 ≤ m) : l.tail.getLast? = l[m]? := by
  rw [List.getLast?_eq_getElem?, List.length_tail, ← List.drop_one, List.getElem?_drop]
  congr 1; omega
theorem tail_dl (l : List UInt8) (m : Nat) (h : l.length = m + 1) : l.tail.dropLast = (l.take m).drop 1 := by
  rw [List.dropLast_eq_take, List.length_tail, ← List.drop_one, List.drop_take]
  congr 1; omega
theorem qb_no {b : UInt8} (h0 : b ≠ 34) (h1 : b ≠ 58) (h2 : b ≠ 59) (h3 : b ≠ 44) : qb b = false := by simp [qb, h0, h1, h2, h3]
theorem mid_step (s : ByteArray) (i : Nat) (h1 : 1 ≤ i) (h : i < s.size) : (s.data.toList.take (i + 1)).drop 1 = (s.data.toList.take i).drop 1 ++ [s[i]] := by
  have hz := Lib.size_eq s
  rw [take_at s i h, List.drop_append_of_le_length (by rw [List.length_take]; omega)]
theorem mid_has (s : ByteArray) (i m : Nat) (h1 : 1 ≤ i) (h : i < m) (hm : m ≤ s.size) (hb : s[i] = 34) : 34 ∈ (s.data.toList.take m).drop 1 := by
  have hz := Lib.size_eq s
  rw [List.mem_iff_getElem?]
  refine ⟨i - 1, ?_⟩
  rw [List.getElem?_drop, List.getElem?_take, if_pos (by omega), show 1 + (i - 1) = i by omega, at_toNat s i (by omega), hb]
end Es
set_option maxHeartbeats 8000000 in
set_option maxRecDepth 100000 in
theorem refvalue_any (s : ByteArray) (w : World) (hs : s.size ≤ 400000) :
    Calls Tryd.prog 16 #[.string s] w fun e w' => e = .returned (.tuple #[.string ⟨(Es.vlT s.data.toList).toArray⟩, .int .i64 (Es.vlE s.data.toList)]) ∧ Gr w w' := by
  have cC := clean_any false s w (by omega)
  by_cases hE : Es.clE false s.data.toList = 0
  · obtain ⟨hN, hY⟩ := Es.vl_zero hE
    rw [hE] at cC
    have hsz := Lib.size_eq s
    have HN := Lib.hid hN
    have HY := Lib.hid hY
    generalize Es.vlE s.data.toList = E at *
    generalize Es.vlT s.data.toList = T at *
    clear hN hY hE
    by_cases hh : s.data.toList.head? = some 34
    · have hq := Es.vq_in hh
      have hpos : 0 < s.size := by
        rcases Nat.eq_zero_or_pos s.size with h | h
        · rw [empty_list s h] at hh; cases hh
        · exact h
      have h34 : ((s[0].toNat : Int) == 34) = true := by
        rw [nonempty_head s hpos] at hh
        have : s[0] = 34 := by simpa using hh
        rw [this]; rfl
      obtain ⟨m, hm⟩ : ∃ m, s.size = m + 1 := ⟨s.size - 1, by omega⟩
      have hmi : (s.size : Int) - 1 = (m : Int) := by omega
      have hml : m < s.size := by omega
      have hposi : (0 : Int) < (s.size : Int) := by omega
      rw [Es.tail_dl _ m (by omega)] at hq
      have HQ := Lib.hid hq
      have HZ := Lib.hid (And.intro hsz hm)
      clear hq hsz hm hh
      go_enter Tryd.func16, Tryd.ntmps16
      go_wp2_with (go_at_call 18; refine cC.mono ?_; rintro e w1 ⟨rfl, rfl⟩)
      go_loopg [5] (m + 1) (fun g v wx => ∃ i : Nat, v = .int .i64 (i : Int) ∧ 1 ≤ i ∧ i + g = m + 2 ∧ (i = 1 ∨ i ≤ m) ∧ w = wx ∧ Hid (34 ∉ (s.data.toList.take i).drop 1))
      case atStart => exact ⟨1, rfl, by omega, by omega, .inl rfl, rfl, Lib.hid (by
        rw [List.drop_eq_nil_of_le (by rw [List.length_take]; omega)]; simp)⟩
      case round =>
        obtain ⟨i, rfl, hi1, hig, him, rfl, HI⟩ := hrel
        have HG := Lib.hid hig
        clear hig
        by_cases hi : i < m
        · have his : i < s.size := by omega
          have hii : (i : Int) < (m : Int) := by omega
          cases g34 : ((s[i].toNat : Int) == 34)
          · have HJ : Hid (34 ∉ (s.data.toList.take (i + 1)).drop 1) := Lib.hid (by
              rw [Es.mid_step s i hi1 his, List.mem_append]
              rintro (h | h)
              · exact HI.out h
              · have : 34 = s[i] := by simpa using h
                exact (by_f 34 g34) this.symm)
            clear him
            go_wp2
            go_roundg (m + 2 - (i + 1))
            case measure => have := HG.out; omega
            case rel => exact ⟨i + 1, by go_num, by omega, by omega, .inr (by omega), rfl, HJ⟩
          · have hin := Es.mid_has s i m hi1 hi (by omega) (by_t 34 g34)
            have hq2 := HQ.out
            rw [if_neg (fun h => h.2 hin)] at hq2
            have HB := Lib.hid (HN.out hq2)
            clear hin hq2 him
            go_wp2
            go_ret2
            rw [HB.out.1, HB.out.2]
            exact ⟨rfl, Gr.refl _⟩
        · have hii : ¬ (i : Int) < (m : Int) := by omega
          by_cases hm2 : s.size < 2
          · have hm2i : (s.size : Int) < 2 := by omega
            have hq2 := HQ.out
            have htl : s.data.toList.tail = [] := List.eq_nil_of_length_eq_zero (by rw [List.length_tail, ← HZ.out.1]; omega)
            rw [htl, if_neg (fun h => by have := h.1; cases this)] at hq2
            have HB := Lib.hid (HN.out hq2)
            clear hq2 htl him
            go_wp2
            go_ret2
            rw [HB.out.1, HB.out.2]
            exact ⟨rfl, Gr.refl _⟩
          · have hm2i : ¬ (s.size : Int) < 2 := by omega
            have hmz := HZ.out.2
            have hlast := Es.tail_last s.data.toList m (by rw [← HZ.out.1]; exact hmz) (by omega)
            rw [at_toNat s m hml] at hlast
            have hq2 := HQ.out
            rw [hlast] at hq2
            have hno : 34 ∉ (s.data.toList.take m).drop 1 := by
              rcases him with h | h
              · have hm1 : m = 1 := by omega
                rw [hm1, List.drop_eq_nil_of_le (by rw [List.length_take]; omega)]; simp
              · have : i = m := by omega
                rw [← this]; exact HI.out
            cases g34 : ((s[m].toNat : Int) == 34)
            · have g34n : ((s[m].toNat : Int) != 34) = true := by rw [bne, g34]; rfl
              rw [if_neg (show ¬ (some s[m] = some 34 ∧ 34 ∉ (s.data.toList.take m).drop 1) from fun h => (by_f 34 g34) (Option.some.inj h.1))] at hq2
              have HB := Lib.hid (HN.out hq2)
              clear hq2 hlast hno him hmz
              go_wp2
              go_ret2
              rw [HB.out.1, HB.out.2]
              exact ⟨rfl, Gr.refl _⟩
            · have g34n : ((s[m].toNat : Int) != 34) = false := by rw [bne, g34]; rfl
              rw [if_pos ⟨by rw [by_t 34 g34], hno⟩] at hq2
              have hB := HY.out _ hq2
              obtain ⟨V, hV⟩ : ∃ V, Es.vr ((s.data.toList.take m).drop 1) = V := ⟨_, rfl⟩
              rw [hV] at hB
              have HBX := Lib.hid hB
              obtain ⟨t, htq⟩ : ∃ t, s.extract 1 m = t := ⟨_, rfl⟩
              have htd : t.data.toList = (s.data.toList.take m).drop 1 := by rw [← htq, extract_mid9]
              have htz : t.size ≤ s.size := by rw [Lib.size_eq t, htd, List.length_drop, List.length_take]; omega
              rw [← htd] at hV
              have HV := Lib.hid hV
              have hm1 : (1 : Int) ≤ (m : Int) := by omega
              clear hq2 hlast hno him hmz hB hV htd
              go_wp2
              go_loopg [7, 8] t.size (fun g v7 v wx => ∃ A2 n2 c2 acc, ∃ i : Nat, v7 = .slice A2 n2 c2 ∧ v = .int .i64 (i : Int) ∧ i + g = t.size ∧ Below w.heap.size w wx ∧ w.heap.size ≤ wx.heap.size ∧ n2 ≤ i ∧ OwnV wx w.heap.size 5 A2 n2 c2 (bc acc) ∧ Hid (acc ++ Es.vr (t.data.toList.drop i) = V))
              case atStart => exact ⟨_, _, _, [], 0, rfl, rfl, by omega, Below.refl _ _, Nat.le_refl _, by omega, OwnV.nil _ _ _, HV⟩
              case round =>
                obtain ⟨A2, n2, c2, acc, i, rfl, rfl, hig, hb2, hsz2, hn2, hown2, HA⟩ := hrel
                have HG := Lib.hid hig
                clear hig
                by_cases hi : i < t.size
                · have hd := drop_at t i hi
                  have ha := HA.out
                  rw [hd] at ha
                  cases h94 : ((t[i].toNat : Int) == 94)
                  · rw [Es.vr_else _ _ (by_f 94 h94)] at ha
                    have HB : Hid (acc ++ [t[i]] ++ Es.vr (t.data.toList.drop (i + 1)) = V) := Lib.hid (by rw [← ha]; simp)
                    clear ha hd
                    go_wp2_with (at_builtin; refine ap_bytes wr rfl (.tmp 117) (.tmp 119) rfl w.heap.size A2 n2 c2 acc [t[i]] rfl hown2 1 1 rfl rfl (by omega) hsz2 ?_; intro A3 c3 w3 hown3 hb3)
                    go_roundg (t.size - (i + 1))
                    case measure => have := HG.out; omega
                    case rel => exact ⟨_, _, _, _, i + 1, rfl, by go_num, by omega, hb2.trans hb3, by have := hb3.size; omega, by omega, hown3, HB⟩
                  · have ht94 := by_t 94 h94
                    rw [ht94] at ha
                    by_cases hi2 : i + 1 < t.size
                    · have hi2i : (i : Int) + 1 < (t.size : Int) := by omega
                      have hd2 := drop_at t (i + 1) hi2
                      have htd := tail_drop t i
                      cases h110 : ((t[i + 1].toNat : Int) == 110)
                      · cases h39 : ((t[i + 1].toNat : Int) == 39)
                        · cases g94 : ((t[i + 1].toNat : Int) == 94)
                          · have hac : Es.ac (t.data.toList.drop (i + 1)) = none := by rw [hd2]; exact Es.ac_no (by_f 110 h110) (by_f 39 h39) (by_f 94 g94)
                            rw [Es.vr_none _ hac] at ha
                            clear hd2 htd hac
                            have HB : Hid (acc ++ [t[i]] ++ Es.vr (t.data.toList.drop (i + 1)) = V) := Lib.hid (by rw [← ha, ht94]; simp)
                            clear ha hd ht94
                            go_wp2_with (at_builtin; refine ap_bytes wr rfl (.tmp 117) (.tmp 119) rfl w.heap.size A2 n2 c2 acc [t[i]] rfl hown2 1 1 rfl rfl (by omega) hsz2 ?_; intro A3 c3 w3 hown3 hb3)
                            go_roundg (t.size - (i + 1))
                            case measure => have := HG.out; omega
                            case rel => exact ⟨_, _, _, _, i + 1, rfl, by go_num, by omega, hb2.trans hb3, by have := hb3.size; omega, by omega, hown3, HB⟩
                          · have hac : Es.ac (t.data.toList.drop (i + 1)) = some 94 := by rw [hd2, by_t 94 g94]; rfl
                            rw [Es.vr_some _ _ hac, htd] at ha
                            clear hd2 htd hac
                            have HB : Hid (acc ++ [t[i]] ++ Es.vr (t.data.toList.drop (i + 2)) = V) := Lib.hid (by rw [← ha, ht94]; simp)
                            clear ha hd ht94
                            go_wp2_with (at_builtin; refine ap_bytes wr rfl (.tmp 117) (.tmp 119) rfl w.heap.size A2 n2 c2 acc [t[i]] rfl hown2 1 1 rfl rfl (by omega) hsz2 ?_; intro A3 c3 w3 hown3 hb3)
                            go_roundg (t.size - (i + 2))
                            case measure => have := HG.out; omega
                            case rel => exact ⟨_, _, _, _, i + 2, rfl, by go_num, by omega, hb2.trans hb3, by have := hb3.size; omega, by omega, hown3, HB⟩
                        · have hac : Es.ac (t.data.toList.drop (i + 1)) = some 34 := by rw [hd2, by_t 39 h39]; rfl
                          rw [Es.vr_some _ _ hac, htd] at ha
                          clear hd2 htd hac ht94
                          have HB : Hid (acc ++ [34] ++ Es.vr (t.data.toList.drop (i + 2)) = V) := Lib.hid (by rw [← ha]; simp)
                          clear ha hd
                          go_wp2_with (at_builtin; refine ap_bytes wr rfl (.tmp 117) (.tmp 119) rfl w.heap.size A2 n2 c2 acc [34] rfl hown2 1 1 rfl rfl (by omega) hsz2 ?_; intro A3 c3 w3 hown3 hb3)
                          go_roundg (t.size - (i + 2))
                          case measure => have := HG.out; omega
                          case rel => exact ⟨_, _, _, _, i + 2, rfl, by go_num, by omega, hb2.trans hb3, by have := hb3.size; omega, by omega, hown3, HB⟩
                      · have h39 : ((t[i + 1].toNat : Int) == 39) = false := by rw [by_t 110 h110]; rfl
                        have hac : Es.ac (t.data.toList.drop (i + 1)) = some 10 := by rw [hd2, by_t 110 h110]; rfl
                        rw [Es.vr_some _ _ hac, htd] at ha
                        clear hd2 htd hac ht94
                        have HB : Hid (acc ++ [10] ++ Es.vr (t.data.toList.drop (i + 2)) = V) := Lib.hid (by rw [← ha]; simp)
                        clear ha hd
                        go_wp2_with (at_builtin; refine ap_bytes wr rfl (.tmp 117) (.tmp 119) rfl w.heap.size A2 n2 c2 acc [10] rfl hown2 1 1 rfl rfl (by omega) hsz2 ?_; intro A3 c3 w3 hown3 hb3)
                        go_roundg (t.size - (i + 2))
                        case measure => have := HG.out; omega
                        case rel => exact ⟨_, _, _, _, i + 2, rfl, by go_num, by omega, hb2.trans hb3, by have := hb3.size; omega, by omega, hown3, HB⟩
                    · have hi2i : ¬ (i : Int) + 1 < (t.size : Int) := by omega
                      have hac : Es.ac (t.data.toList.drop (i + 1)) = none := by rw [drop_end t (i + 1) (by omega)]; rfl
                      rw [Es.vr_none _ hac] at ha
                      clear hac
                      have HB : Hid (acc ++ [t[i]] ++ Es.vr (t.data.toList.drop (i + 1)) = V) := Lib.hid (by rw [← ha, ht94]; simp)
                      clear ha hd ht94
                      go_wp2_with (at_builtin; refine ap_bytes wr rfl (.tmp 117) (.tmp 119) rfl w.heap.size A2 n2 c2 acc [t[i]] rfl hown2 1 1 rfl rfl (by omega) hsz2 ?_; intro A3 c3 w3 hown3 hb3)
                      go_roundg (t.size - (i + 1))
                      case measure => have := HG.out; omega
                      case rel => exact ⟨_, _, _, _, i + 1, rfl, by go_num, by omega, hb2.trans hb3, by have := hb3.size; omega, by omega, hown3, HB⟩
                · have ha := HA.out
                  rw [drop_end t i (by omega), Es.vr_nil, List.append_nil] at ha
                  obtain rfl : i = t.size := by have := HG.out; omega
                  rw [ha] at hown2
                  clear ha
                  have hcv := conv_back hown2
                  go_wp2
                  go_ret2
                  rw [HBX.out.1, HBX.out.2]
                  exact ⟨rfl, ⟨hb2⟩⟩
    · have hq := Es.vq_out hh
      have hnh : s.size = 0 ∨ ∃ h : 0 < s.size, ((s[0].toNat : Int) == 34) = false := by
        rcases Nat.eq_zero_or_pos s.size with h | h
        · exact .inl h
        · refine .inr ⟨h, ?_⟩
          rw [beq_eq_false_iff_ne]
          intro e
          rw [nonempty_head s h] at hh
          have e2 : s[0] = 34 := UInt8.toNat_inj.1 (by have : ((34 : UInt8).toNat : Int) = 34 := rfl; omega)
          exact hh (by rw [List.head?_cons, e2])
      have HQ := Lib.hid hq
      have HZ := Lib.hid hsz
      clear hq hsz hh
      rcases hnh with h0 | ⟨hpos, h34⟩
      · have h0i : ¬ (0 : Int) < (s.size : Int) := by omega
        go_enter Tryd.func16, Tryd.ntmps16
        go_wp2_with (go_at_call 18; refine cC.mono ?_; rintro e w1 ⟨rfl, rfl⟩)
        go_loopg [53] s.size (fun g v wx => ∃ i : Nat, v = .int .i64 (i : Int) ∧ i + g = s.size ∧ w = wx ∧ Hid ((s.data.toList.take i).any Es.qb = false))
        case atStart => exact ⟨0, rfl, by omega, rfl, Lib.hid (by simp)⟩
        case round =>
          obtain ⟨i, rfl, hig, rfl, HI⟩ := hrel
          have HG := Lib.hid hig
          clear hig
          by_cases hi : i < s.size
          · exfalso; omega
          · have hin := HI.out
            rw [take_end s i (by omega)] at hin
            have hq2 := HQ.out
            rw [hin, if_neg (by simp)] at hq2
            have hB := HY.out _ hq2
            obtain ⟨V, hV⟩ : ∃ V, Es.vr s.data.toList = V := ⟨_, rfl⟩
            rw [hV] at hB
            have HBX := Lib.hid hB
            have HV := Lib.hid hV
            obtain rfl : i = s.size := by have := HG.out; omega
            clear hin hq2 hB hV
            go_wp2
            go_loopg [7, 8] s.size (fun g v7 v wx => ∃ A2 n2 c2 acc, ∃ i : Nat, v7 = .slice A2 n2 c2 ∧ v = .int .i64 (i : Int) ∧ i + g = s.size ∧ Below w.heap.size w wx ∧ w.heap.size ≤ wx.heap.size ∧ n2 ≤ i ∧ OwnV wx w.heap.size 5 A2 n2 c2 (bc acc) ∧ Hid (acc ++ Es.vr (s.data.toList.drop i) = V))
            case atStart => exact ⟨_, _, _, [], 0, rfl, rfl, by omega, Below.refl _ _, Nat.le_refl _, by omega, OwnV.nil _ _ _, HV⟩
            case round =>
              obtain ⟨A2, n2, c2, acc, i, rfl, rfl, hig, hb2, hsz2, hn2, hown2, HA⟩ := hrel
              have HG := Lib.hid hig
              clear hig
              by_cases hi : i < s.size
              · exfalso; omega
              · have ha := HA.out
                rw [drop_end s i (by omega), Es.vr_nil, List.append_nil] at ha
                obtain rfl : i = s.size := by have := HG.out; omega
                rw [ha] at hown2
                clear ha
                have hcv := conv_back hown2
                go_wp2
                go_ret2
                rw [HBX.out.1, HBX.out.2]
                exact ⟨rfl, ⟨hb2⟩⟩
      · have h0i : (0 : Int) < (s.size : Int) := by omega
        go_enter Tryd.func16, Tryd.ntmps16
        go_wp2_with (go_at_call 18; refine cC.mono ?_; rintro e w1 ⟨rfl, rfl⟩)
        go_loopg [53] s.size (fun g v wx => ∃ i : Nat, v = .int .i64 (i : Int) ∧ i + g = s.size ∧ w = wx ∧ Hid ((s.data.toList.take i).any Es.qb = false))
        case atStart => exact ⟨0, rfl, by omega, rfl, Lib.hid (by simp)⟩
        case round =>
          obtain ⟨i, rfl, hig, rfl, HI⟩ := hrel
          have HG := Lib.hid hig
          clear hig
          by_cases hi : i < s.size
          · cases g34 : ((s[i].toNat : Int) == 34)
            · cases g58 : ((s[i].toNat : Int) == 58)
              · cases g59 : ((s[i].toNat : Int) == 59)
                · cases g44 : ((s[i].toNat : Int) == 44)
                  · have hst : (s.data.toList.take (i + 1)).any Es.qb = false := by rw [take_at s i hi, List.any_append, HI.out]; simp [Es.qb_no (by_f 34 g34) (by_f 58 g58) (by_f 59 g59) (by_f 44 g44)]
                    have HJ := Lib.hid hst
                    clear hst
                    go_wp2
                    go_roundg (s.size - (i + 1))
                    case measure => have := HG.out; omega
                    case rel => exact ⟨i + 1, by go_num, by omega, rfl, HJ⟩
                  · have hb : s.data.toList.any Es.qb = true := by
                      rw [List.any_eq_true]
                      exact ⟨s[i], List.mem_of_getElem? (at_toNat s i hi), by rw [by_t 44 g44]; rfl⟩
                    have hq2 := HQ.out
                    rw [hb, if_pos rfl] at hq2
                    have HB := Lib.hid (HN.out hq2)
                    clear hb hq2
                    go_wp2
                    go_ret2
                    rw [HB.out.1, HB.out.2]
                    exact ⟨rfl, Gr.refl _⟩
                · have hb : s.data.toList.any Es.qb = true := by
                    rw [List.any_eq_true]
                    exact ⟨s[i], List.mem_of_getElem? (at_toNat s i hi), by rw [by_t 59 g59]; rfl⟩
                  have hq2 := HQ.out
                  rw [hb, if_pos rfl] at hq2
                  have HB := Lib.hid (HN.out hq2)
                  clear hb hq2
                  go_wp2
                  go_ret2
                  rw [HB.out.1, HB.out.2]
                  exact ⟨rfl, Gr.refl _⟩
              · have hb : s.data.toList.any Es.qb = true := by
                  rw [List.any_eq_true]
                  exact ⟨s[i], List.mem_of_getElem? (at_toNat s i hi), by rw [by_t 58 g58]; rfl⟩
                have hq2 := HQ.out
                rw [hb, if_pos rfl] at hq2
                have HB := Lib.hid (HN.out hq2)
                clear hb hq2
                go_wp2
                go_ret2
                rw [HB.out.1, HB.out.2]
                exact ⟨rfl, Gr.refl _⟩
            · have hb : s.data.toList.any Es.qb = true := by
                rw [List.any_eq_true]
                exact ⟨s[i], List.mem_of_getElem? (at_toNat s i hi), by rw [by_t 34 g34]; rfl⟩
              have hq2 := HQ.out
              rw [hb, if_pos rfl] at hq2
              have HB := Lib.hid (HN.out hq2)
              clear hb hq2
              go_wp2
              go_ret2
              rw [HB.out.1, HB.out.2]
              exact ⟨rfl, Gr.refl _⟩
          · have hin := HI.out
            rw [take_end s i (by omega)] at hin
            have hq2 := HQ.out
            rw [hin, if_neg (by simp)] at hq2
            have hB := HY.out _ hq2
            obtain ⟨V, hV⟩ : ∃ V, Es.vr s.data.toList = V := ⟨_, rfl⟩
            rw [hV] at hB
            have HBX := Lib.hid hB
            have HV := Lib.hid hV
            obtain rfl : i = s.size := by have := HG.out; omega
            clear hin hq2 hB hV
            go_wp2
            go_loopg [7, 8] s.size (fun g v7 v wx => ∃ A2 n2 c2 acc, ∃ i : Nat, v7 = .slice A2 n2 c2 ∧ v = .int .i64 (i : Int) ∧ i + g = s.size ∧ Below w.heap.size w wx ∧ w.heap.size ≤ wx.heap.size ∧ n2 ≤ i ∧ OwnV wx w.heap.size 5 A2 n2 c2 (bc acc) ∧ Hid (acc ++ Es.vr (s.data.toList.drop i) = V))
            case atStart => exact ⟨_, _, _, [], 0, rfl, rfl, by omega, Below.refl _ _, Nat.le_refl _, by omega, OwnV.nil _ _ _, HV⟩
            case round =>
              obtain ⟨A2, n2, c2, acc, i, rfl, rfl, hig, hb2, hsz2, hn2, hown2, HA⟩ := hrel
              have HG := Lib.hid hig
              clear hig
              by_cases hi : i < s.size
              · have hd := drop_at s i hi
                have ha := HA.out
                rw [hd] at ha
                cases h94 : ((s[i].toNat : Int) == 94)
                · rw [Es.vr_else _ _ (by_f 94 h94)] at ha
                  have HB : Hid (acc ++ [s[i]] ++ Es.vr (s.data.toList.drop (i + 1)) = V) := Lib.hid (by rw [← ha]; simp)
                  clear ha hd
                  go_wp2_with (at_builtin; refine ap_bytes wr rfl (.tmp 117) (.tmp 119) rfl w.heap.size A2 n2 c2 acc [s[i]] rfl hown2 1 1 rfl rfl (by omega) hsz2 ?_; intro A3 c3 w3 hown3 hb3)
                  go_roundg (s.size - (i + 1))
                  case measure => have := HG.out; omega
                  case rel => exact ⟨_, _, _, _, i + 1, rfl, by go_num, by omega, hb2.trans hb3, by have := hb3.size; omega, by omega, hown3, HB⟩
                · have ht94 := by_t 94 h94
                  rw [ht94] at ha
                  by_cases hi2 : i + 1 < s.size
                  · have hi2i : (i : Int) + 1 < (s.size : Int) := by omega
                    have hd2 := drop_at s (i + 1) hi2
                    have htd := tail_drop s i
                    cases h110 : ((s[i + 1].toNat : Int) == 110)
                    · cases h39 : ((s[i + 1].toNat : Int) == 39)
                      · cases g94 : ((s[i + 1].toNat : Int) == 94)
                        · have hac : Es.ac (s.data.toList.drop (i + 1)) = none := by rw [hd2]; exact Es.ac_no (by_f 110 h110) (by_f 39 h39) (by_f 94 g94)
                          rw [Es.vr_none _ hac] at ha
                          clear hd2 htd hac
                          have HB : Hid (acc ++ [s[i]] ++ Es.vr (s.data.toList.drop (i + 1)) = V) := Lib.hid (by rw [← ha, ht94]; simp)
                          clear ha hd ht94
                          go_wp2_with (at_builtin; refine ap_bytes wr rfl (.tmp 117) (.tmp 119) rfl w.heap.size A2 n2 c2 acc [s[i]] rfl hown2 1 1 rfl rfl (by omega) hsz2 ?_; intro A3 c3 w3 hown3 hb3)
                          go_roundg (s.size - (i + 1))
                          case measure => have := HG.out; omega
                          case rel => exact ⟨_, _, _, _, i + 1, rfl, by go_num, by omega, hb2.trans hb3, by have := hb3.size; omega, by omega, hown3, HB⟩
                        · have hac : Es.ac (s.data.toList.drop (i + 1)) = some 94 := by rw [hd2, by_t 94 g94]; rfl
                          rw [Es.vr_some _ _ hac, htd] at ha
                          clear hd2 htd hac
                          have HB : Hid (acc ++ [s[i]] ++ Es.vr (s.data.toList.drop (i + 2)) = V) := Lib.hid (by rw [← ha, ht94]; simp)
                          clear ha hd ht94
                          go_wp2_with (at_builtin; refine ap_bytes wr rfl (.tmp 117) (.tmp 119) rfl w.heap.size A2 n2 c2 acc [s[i]] rfl hown2 1 1 rfl rfl (by omega) hsz2 ?_; intro A3 c3 w3 hown3 hb3)
                          go_roundg (s.size - (i + 2))
                          case measure => have := HG.out; omega
                          case rel => exact ⟨_, _, _, _, i + 2, rfl, by go_num, by omega, hb2.trans hb3, by have := hb3.size; omega, by omega, hown3, HB⟩
                      · have hac : Es.ac (s.data.toList.drop (i + 1)) = some 34 := by rw [hd2, by_t 39 h39]; rfl
                        rw [Es.vr_some _ _ hac, htd] at ha
                        clear hd2 htd hac ht94
                        have HB : Hid (acc ++ [34] ++ Es.vr (s.data.toList.drop (i + 2)) = V) := Lib.hid (by rw [← ha]; simp)
                        clear ha hd
                        go_wp2_with (at_builtin; refine ap_bytes wr rfl (.tmp 117) (.tmp 119) rfl w.heap.size A2 n2 c2 acc [34] rfl hown2 1 1 rfl rfl (by omega) hsz2 ?_; intro A3 c3 w3 hown3 hb3)
                        go_roundg (s.size - (i + 2))
                        case measure => have := HG.out; omega
                        case rel => exact ⟨_, _, _, _, i + 2, rfl, by go_num, by omega, hb2.trans hb3, by have := hb3.size; omega, by omega, hown3, HB⟩
                    · have h39 : ((s[i + 1].toNat : Int) == 39) = false := by rw [by_t 110 h110]; rfl
                      have hac : Es.ac (s.data.toList.drop (i + 1)) = some 10 := by rw [hd2, by_t 110 h110]; rfl
                      rw [Es.vr_some _ _ hac, htd] at ha
                      clear hd2 htd hac ht94
                      have HB : Hid (acc ++ [10] ++ Es.vr (s.data.toList.drop (i + 2)) = V) := Lib.hid (by rw [← ha]; simp)
                      clear ha hd
                      go_wp2_with (at_builtin; refine ap_bytes wr rfl (.tmp 117) (.tmp 119) rfl w.heap.size A2 n2 c2 acc [10] rfl hown2 1 1 rfl rfl (by omega) hsz2 ?_; intro A3 c3 w3 hown3 hb3)
                      go_roundg (s.size - (i + 2))
                      case measure => have := HG.out; omega
                      case rel => exact ⟨_, _, _, _, i + 2, rfl, by go_num, by omega, hb2.trans hb3, by have := hb3.size; omega, by omega, hown3, HB⟩
                  · have hi2i : ¬ (i : Int) + 1 < (s.size : Int) := by omega
                    have hac : Es.ac (s.data.toList.drop (i + 1)) = none := by rw [drop_end s (i + 1) (by omega)]; rfl
                    rw [Es.vr_none _ hac] at ha
                    clear hac
                    have HB : Hid (acc ++ [s[i]] ++ Es.vr (s.data.toList.drop (i + 1)) = V) := Lib.hid (by rw [← ha, ht94]; simp)
                    clear ha hd ht94
                    go_wp2_with (at_builtin; refine ap_bytes wr rfl (.tmp 117) (.tmp 119) rfl w.heap.size A2 n2 c2 acc [s[i]] rfl hown2 1 1 rfl rfl (by omega) hsz2 ?_; intro A3 c3 w3 hown3 hb3)
                    go_roundg (s.size - (i + 1))
                    case measure => have := HG.out; omega
                    case rel => exact ⟨_, _, _, _, i + 1, rfl, by go_num, by omega, hb2.trans hb3, by have := hb3.size; omega, by omega, hown3, HB⟩
              · have ha := HA.out
                rw [drop_end s i (by omega), Es.vr_nil, List.append_nil] at ha
                obtain rfl : i = s.size := by have := HG.out; omega
                rw [ha] at hown2
                clear ha
                have hcv := conv_back hown2
                go_wp2
                go_ret2
                rw [HBX.out.1, HBX.out.2]
                exact ⟨rfl, ⟨hb2⟩⟩
  · obtain ⟨e1, e2⟩ := Es.vl_cl hE
    rw [e1, e2]
    have hEn : ((Es.clE false s.data.toList : Int) != 0) = true := by simpa using hE
    generalize Es.clE false s.data.toList = E at *
    clear hE e1 e2
    go_enter Tryd.func16, Tryd.ntmps16
    go_wp2_with (go_at_call 18; refine cC.mono ?_; rintro e w1 ⟨rfl, rfl⟩)
    go_ret2
    exact ⟨rfl, Gr.refl _⟩
end Go.Proofs.YtoocghgafebcbaaDoor
