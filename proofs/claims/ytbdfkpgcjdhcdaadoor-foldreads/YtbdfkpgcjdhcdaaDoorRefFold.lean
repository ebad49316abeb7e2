/- What the reference's Fold returns. -/
import Derived.Test.YtbdfkpgcjdhcdaaDoorRefUtf
import Derived.Test.YtbdfkpgcjdhcdaaDoorFdFold
namespace Go.Proofs.YtbdfkpgcjdhcdaaDoor
open Go.RowKit

namespace Fd
theorem fine_of (l : List UInt8) (h : l ≠ []) (hc : ct l = false) (hn : ∀ (j : Nat) (b : UInt8), l[j]? = some b → b ≠ 13 ∧ b ≠ 10) : fine l = true := by
  unfold fine
  rw [hc]
  simp only [Bool.and_eq_true, Bool.not_eq_true', List.isEmpty_eq_false_iff, List.all_eq_true, bne_iff_ne, ne_eq, Bool.not_false, and_true]
  refine ⟨h, fun x hx => ?_⟩
  obtain ⟨j, hj, rfl⟩ := List.getElem_of_mem hx
  exact hn j _ (List.getElem?_eq_getElem hj)
theorem fine_nl (l : List UInt8) (j : Nat) (b : UInt8) (h : l[j]? = some b) (hb : b = 13 ∨ b = 10) : fine l = false := by
  unfold fine
  rw [Bool.and_eq_false_iff]
  right
  rw [List.all_eq_false]
  exact ⟨b, List.mem_of_getElem? h, by rcases hb with rfl | rfl <;> simp⟩
theorem fine_ct (l : List UInt8) (h : ct l = true) : fine l = false := by unfold fine; rw [h]; simp
end Fd
theorem at_toNat (s : ByteArray) (i : Nat) (h : i < s.size) : s.data.toList[i]? = some s[i] := by
  have h2 : i < s.data.toList.length := by rw [← Lib.size_eq]; exact h
  rw [List.getElem?_eq_getElem h2]; rfl
theorem byte_eq {b : UInt8} {n : Nat} (hn : n < 256) : ((b.toNat : Int) == (n : Int)) = true ↔ b = UInt8.ofNat n := by
  constructor
  · intro h
    have h2 : (b.toNat : Int) = n := by simpa only [beq_iff_eq] using h
    have : b.toNat = n := by omega
    apply UInt8.toNat_inj.1
    rw [this]
    simp; omega
  · rintro rfl
    simp; omega
theorem extract_mid (s : ByteArray) (a b : Nat) : s.extract a b = ⟨((s.data.toList.take b).drop a).toArray⟩ := str_data (by
  simp only [ByteArray.data_extract, Array.toList_extract, List.extract_eq_take_drop]
  rw [List.take_drop]
  by_cases h : a ≤ b
  · rw [show a + (b - a) = b by omega]
  · rw [List.drop_eq_nil_of_le (by rw [List.length_take]; omega), List.drop_eq_nil_of_le (by rw [List.length_take]; omega)])
namespace Fd
theorem long_more (ls : List (List UInt8)) (j : Nat) (h : long (ls.take j) = true) : long (ls.take (j + 1)) = true := by
  refine long_take (ls.take (j + 1)) j ?_
  rw [List.take_take, Nat.min_eq_left (by omega)]; exact h
theorem long_small {ls : List (List UInt8)} (h : long ls = false) : (all ls).length ≤ 20000 := by
  unfold long at h
  rw [Bool.or_eq_false_iff] at h
  simpa using h.2
end Fd

set_option maxHeartbeats 8000000 in
set_option maxRecDepth 100000 in
theorem reffold_any (A : Option Addr) (n c : Nat) (ls : List (List UInt8)) (w : World) (hS : Strs w w.heap.size A n ls) (hn : n ≤ 40000) (hlen : ∀ l ∈ ls, l.length ≤ 40000) :
    Calls Tryd.prog 10 #[.slice A n c] w fun e w' => e = .returned (.tuple #[.string ⟨(Fd.foldT ls).toArray⟩, .int .i64 (Fd.foldE ls)]) ∧ Gr w w' := by
  have hl : ls.length = n := hS.1
  have HL := Lib.hid hl
  clear hl
  go_enter Tryd.func10, Tryd.ntmps10
  go_wp2
  go_loopg [16] n (fun g v wx => ∃ k : Nat, v = .int .i64 (k : Int) ∧ k + g = n ∧ w = wx ∧ (ls.take k).all Fd.fine = true)
  case atStart => exact ⟨0, rfl, by omega, rfl, by simp⟩
  case round =>
    obtain ⟨k, rfl, hkg, rfl, hf⟩ := hrel
    have HG := Lib.hid (And.intro hkg hf)
    by_cases hk : k < n
    · obtain ⟨ad, hk', rfl, hbl, hcell⟩ := hS.at_ hk
      have hle := hlen _ (List.getElem_mem hk')
      have hz : (ByteArray.mk ls[k].toArray).size = ls[k].length := size_mk _
      have HN := Lib.hid (fun h => (Fd.foldE_bad ls (Fd.not_all_fine ls k hk' h)))
      have HY := Lib.hid (fun h => Fd.all_take_fine ls k hk' HG.out.2 h)
      have ed : (ByteArray.mk ls[k].toArray).data.toList = ls[k] := rfl
      have HX := Lib.hid ed
      rw [← hz] at hle
      have HZ := Lib.hid hz
      clear hkg hf ed hz
      generalize (ByteArray.mk ls[k].toArray) = s at *
      by_cases h0 : s.size = 0
      · have hem : s.toList.isEmpty = true := by rw [Lib.toList_data, isEmpty_size]; simp [h0]
        have hbad : Fd.fine ls[k] = false := by
          have : ls[k] = [] := List.eq_nil_of_length_eq_zero (by rw [← HZ.out]; exact h0)
          rw [this]; rfl
        have HB := Lib.hid (HN.out hbad)
        clear hbad
        go_wp2
        go_ret2
        rw [HB.out.1, HB.out.2]
        exact ⟨rfl, Gr.refl _⟩
      · have hem : s.toList.isEmpty = false := by rw [Lib.toList_data, isEmpty_size]; simp [h0]
        have hp : 0 < s.size := by omega
        have hch := ct_head s hp
        rw [HX.out] at hch
        cases h1 : ((s[0].toNat : Int) == 32)
        · cases h2 : ((s[0].toNat : Int) == 9)
          · rw [h1, h2] at hch
            have HC := Lib.hid hch
            clear hch
            go_wp2
            go_loopg [37] s.size (fun g v wx => ∃ j : Nat, v = .int .i64 (j : Int) ∧ j + g = s.size ∧ w = wx ∧ ∀ (i : Nat) (b : UInt8), i < j → s.data.toList[i]? = some b → b ≠ 13 ∧ b ≠ 10)
            case atStart => exact ⟨0, rfl, by omega, rfl, fun i b h => by omega⟩
            case round =>
              obtain ⟨j, rfl, hjg, rfl, hno⟩ := hrel
              have HJ := Lib.hid hjg
              have HO := Lib.hid hno
              clear hjg hno
              by_cases hj : j < s.size
              · have hat := at_toNat s j hj
                have HA := Lib.hid hat
                clear hat
                cases h3 : ((s[j].toNat : Int) == 13)
                · cases h4 : ((s[j].toNat : Int) == 10)
                  · go_wp2
                    go_roundg (s.size - (j + 1))
                    case measure => have := HJ.out; omega
                    case rel =>
                      refine ⟨j + 1, by go_num, by omega, rfl, fun i b hi hb => ?_⟩
                      rcases Nat.lt_or_ge i j with h5 | h5
                      · exact HO.out i b h5 hb
                      · have : i = j := by omega
                        subst this
                        rw [HA.out] at hb
                        obtain rfl := Option.some.inj hb
                        constructor
                        · intro e; rw [e] at h3; cases h3
                        · intro e; rw [e] at h4; cases h4
                  · have hbad : Fd.fine ls[k] = false := Fd.fine_nl _ j s[j] (by rw [← HX.out]; exact HA.out) (.inr ((byte_eq (n := 10) (by omega)).1 h4))
                    have HB := Lib.hid (HN.out hbad)
                    clear hbad
                    go_wp2
                    go_ret2
                    rw [HB.out.1, HB.out.2]
                    exact ⟨rfl, Gr.refl _⟩
                · have hbad : Fd.fine ls[k] = false := Fd.fine_nl _ j s[j] (by rw [← HX.out]; exact HA.out) (.inl ((byte_eq (n := 13) (by omega)).1 h3))
                  have HB := Lib.hid (HN.out hbad)
                  clear hbad
                  go_wp2
                  go_ret2
                  rw [HB.out.1, HB.out.2]
                  exact ⟨rfl, Gr.refl _⟩
              · obtain rfl : j = s.size := by have := HJ.out; omega
                have hgood : Fd.fine ls[k] = true := Fd.fine_of _ (by
                  intro e; have := HZ.out; rw [e, List.length_nil] at this; omega) HC.out (fun i b hb => by
                    rw [← HX.out] at hb
                    have : i < s.data.toList.length := (List.getElem?_eq_some_iff.1 hb).1
                    exact HO.out i b (by rw [Lib.size_eq]; exact this) hb)
                have HB := Lib.hid (HY.out hgood)
                clear hgood
                go_wp2
                go_roundg (n - (k + 1))
                case measure => have := HG.out.1; omega
                case rel => exact ⟨k + 1, by go_num, by omega, rfl, HB.out⟩
          · rw [h1, h2] at hch
            have HB := Lib.hid (HN.out (Fd.fine_ct _ hch))
            clear hch
            go_wp2
            go_ret2
            rw [HB.out.1, HB.out.2]
            exact ⟨rfl, Gr.refl _⟩
        · rw [h1] at hch
          have HB := Lib.hid (HN.out (Fd.fine_ct _ hch))
          clear hch
          go_wp2
          go_ret2
          rw [HB.out.1, HB.out.2]
          exact ⟨rfl, Gr.refl _⟩
    · have e1 : ls.take k = ls := List.take_of_length_le (by rw [HL.out]; omega)
      rw [e1] at hf
      have HA := Lib.hid hf
      obtain rfl : k = n := by omega
      clear hf e1 hkg HG
      go_wp2
      go_loopg [7, 8, 54] k (fun g v7 v8 v wx => ∃ A2 n2 c2 acc, ∃ lg : Bool, ∃ j : Nat, v7 = .slice A2 n2 c2 ∧ v8 = .bool lg ∧ v = .int .i64 (j : Int) ∧ j + g = k ∧ Below w.heap.size w wx ∧ w.heap.size ≤ wx.heap.size ∧ OwnV wx w.heap.size 5 A2 n2 c2 (bc acc) ∧ n2 ≤ 28010 + 2 * j ∧ Hid (Fd.long (ls.take j) = lg ∧ (lg = false → acc = Fd.all (ls.take j))))
      case atStart => exact ⟨_, _, _, [], false, 0, rfl, rfl, rfl, by omega, Below.refl _ _, Nat.le_refl _, OwnV.nil _ _ _, by omega, Lib.hid ⟨by simp [Fd.long, Fd.all], fun _ => by simp [Fd.all]⟩⟩
      case round =>
        obtain ⟨A2, n2, c2, acc, lg, j, rfl, rfl, rfl, hjg, hb2, hsz2, hown2, hn2, HLo⟩ := hrel
        have HJ := Lib.hid hjg
        clear hjg
        by_cases hj : j < k
        · obtain ⟨ad, hj', rfl, hbl, hcell⟩ := (hS.keep hb2).at_ hj
          have hle := hlen _ (List.getElem_mem hj')
          have HLS := Lib.hid (fun h => Fd.long_succ ls j hj' h)
          have HAS := Lib.hid (Fd.all_take_succ ls j hj')
          have hz : (ByteArray.mk ls[j].toArray).size = ls[j].length := size_mk _
          have ed : (ByteArray.mk ls[j].toArray).data.toList = ls[j] := rfl
          have HX := Lib.hid ed
          have HZ := Lib.hid hz
          rw [← hz] at hle
          clear hz ed
          generalize (ByteArray.mk ls[j].toArray) = s at *
          cases lg
          · by_cases h2000 : 2000 < s.size
            · have hdt : decide ((2000 : Int) < (s.size : Int)) = true := by simp; omega
              go_wp2
              refine wp_loop_rounds 1 ?_
              rw [rounds_succ]
              go_wp2_with (at_builtin; refine ap_lit wr rfl (.tmp 99) (.tmp 100) 35 5 (.int .u8 0) 1 Tryd.underlying35 info_u8 rfl (by omega) rfl w.heap.size A2 n2 c2 (bc acc) [.int .u8 13, .int .u8 10] rfl hown2 2 2 rfl rfl (by decide) (by omega) hsz2 ?_; intro A3 c3 w3 hown3 hb3)
              go_roundg (k - (j + 1))
              case measure => have := HJ.out; omega
              case rel =>
                refine ⟨_, _, _, acc ++ [13, 10], true, j + 1, rfl, rfl, by go_num, by omega, hb2.trans hb3, by have := hb3.size; omega, by rw [bc_append]; exact hown3, by omega, Lib.hid ⟨?_, fun h => by cases h⟩⟩
                rw [HLS.out HLo.out.1, ← HZ.out]
                simp [h2000]
            · have hdf : decide ((2000 : Int) < (s.size : Int)) = false := by simp; omega
              have hacc : acc = Fd.all (ls.take j) := HLo.out.2 rfl
              have hac2 : acc.length = n2 := by simpa [bc] using hown2.len
              have hac3 : n2 ≤ 20000 := by rw [← hac2, hacc]; exact Fd.long_small HLo.out.1
              have HAC := Lib.hid hacc
              have hll := Fd.line_len s.data.toList
              rw [← Lib.size_eq] at hll
              have HLL := Lib.hid (And.intro hll hac2)
              clear hacc hac2 hll
              go_wp2
              go_loopg [7, 11, 12] s.size (fun g v7 v11 v12 wx => ∃ A4 n4 c4 X, ∃ wi i : Nat, v7 = .slice A4 n4 c4 ∧ v11 = .int .i64 (wi : Int) ∧ v12 = .int .i64 (i : Int) ∧ i + g = s.size ∧ wi ≤ 75 ∧ Below w.heap.size w wx ∧ w.heap.size ≤ wx.heap.size ∧ OwnV wx w.heap.size 5 A4 n4 c4 (bc (acc ++ X)) ∧ Hid (X ++ Fd.rf wi (s.data.toList.drop i) = Fd.rf 0 s.data.toList))
              case atStart => exact ⟨_, _, _, [], 0, 0, rfl, rfl, rfl, by omega, by omega, hb2, hsz2, by rw [List.append_nil]; exact hown2, Lib.hid (by simp)⟩
              case round =>
                obtain ⟨A4, n4, c4, X, wi, i, rfl, rfl, rfl, hig, hwi, hb4, hsz4, hown4, HR⟩ := hrel
                have HI := Lib.hid hig
                have hx4 : (acc ++ X).length = n4 := by simpa [bc] using hown4.len
                have hn4 : n4 ≤ 28002 := by
                  have h1 := congrArg List.length HR.out
                  have h2 := HLL.out
                  unfold Fd.line at h2
                  simp only [List.length_append, List.length_cons, List.length_nil] at h1 h2 hx4
                  omega
                have HX4 := Lib.hid hx4
                clear hig hx4
                by_cases hi : i < s.size
                · have cS := fun w => size_any s i w hi (by omega)
                  have hne : s.data.toList.drop i ≠ [] := by
                    intro h
                    have := congrArg List.length h
                    rw [List.length_drop, List.length_nil, ← Lib.size_eq] at this
                    omega
                  have hp := Fd.wd_pos (s.data.toList.drop i)
                  have h4 := Fd.wd_le4 (s.data.toList.drop i)
                  have hwl := Fd.wd_le _ hne
                  rw [List.length_drop, ← Lib.size_eq] at hwl
                  have hr1 := fun h => Fd.rf_new wi (s.data.toList.drop i) hne h
                  have hr2 := fun h => Fd.rf_same wi (s.data.toList.drop i) hne h
                  rw [List.drop_drop] at hr1 hr2
                  obtain ⟨m, hm⟩ : ∃ m, Fd.wd (s.data.toList.drop i) = m := ⟨_, rfl⟩
                  rw [hm] at cS hp h4 hwl hr1 hr2
                  obtain ⟨u, hu⟩ : ∃ u, s.extract i (i + m) = u := ⟨_, rfl⟩
                  have hud : u.data.toList = (s.data.toList.drop i).take m := by rw [← hu, extract_mid, ← List.take_drop]
                  have hus : u.size = m := by rw [Lib.size_eq, hud, List.length_take, List.length_drop, ← Lib.size_eq]; omega
                  rw [← hud] at hr1 hr2
                  have HRR := Lib.hid (And.intro hr1 hr2)
                  clear hr1 hr2 hud hm hne
                  by_cases hw : 75 < wi + m
                  · go_wp2_with (first
                      | (go_at_call 17; refine (cS _).mono ?_; rintro e w' ⟨rfl, rfl⟩)
                      | (at_builtin; refine ap_lit wr rfl (.tmp 82) (.tmp 83) 35 5 (.int .u8 0) 1 Tryd.underlying35 info_u8 rfl (by omega) rfl w.heap.size A4 n4 c4 (bc (acc ++ X)) [.int .u8 13, .int .u8 10, .int .u8 32] rfl hown4 3 3 rfl rfl (by decide) (by omega) hsz4 ?_; intro A5 c5 w5 hown5 hb5)
                      | (at_builtin; refine ap_text w5 rfl (.tmp 85) (.tmp 91) rfl w.heap.size A5 (n4 + 3) c5 (acc ++ X ++ [13, 10, 32]) rfl (by rw [bc_append]; exact hown5) u (by show Value.string (s.extract i (i + m)) = _; rw [hu]) (by omega) (by have := hb5.size; omega) ?_; intro A6 c6 w6 hown6 hb6))
                    go_roundg (s.size - (i + m))
                    case measure => have := HI.out; omega
                    case rel =>
                      refine ⟨A6, _, c6, X ++ [13, 10, 32] ++ u.data.toList, 1 + m, i + m, rfl, by go_num, by go_num, by omega, by omega, (hb4.trans hb5).trans hb6, by have := hb5.size; have := hb6.size; omega, ?_, Lib.hid ?_⟩
                      · rw [hus] at hown6
                        have e : acc ++ (X ++ [13, 10, 32] ++ u.data.toList) = acc ++ X ++ [13, 10, 32] ++ u.data.toList := by simp
                        rw [e]; exact hown6
                      · rw [← HR.out, HRR.out.1 hw]; simp
                  · go_wp2_with (first
                      | (go_at_call 17; refine (cS _).mono ?_; rintro e w' ⟨rfl, rfl⟩)
                      | (at_builtin; refine ap_text wr rfl (.tmp 85) (.tmp 91) rfl w.heap.size A4 n4 c4 (acc ++ X) rfl hown4 u (by show Value.string (s.extract i (i + m)) = _; rw [hu]) (by omega) hsz4 ?_; intro A6 c6 w6 hown6 hb6))
                    go_roundg (s.size - (i + m))
                    case measure => have := HI.out; omega
                    case rel =>
                      refine ⟨A6, _, c6, X ++ u.data.toList, wi + m, i + m, rfl, by go_num, by go_num, by omega, by omega, hb4.trans hb6, by have := hb6.size; omega, ?_, Lib.hid ?_⟩
                      · rw [hus] at hown6
                        have e : acc ++ (X ++ u.data.toList) = acc ++ X ++ u.data.toList := by simp
                        rw [e]; exact hown6
                      · rw [← HR.out, HRR.out.2 (by omega)]; simp
                · obtain rfl : i = s.size := by have := HI.out; omega
                  have hXe : X = Fd.rf 0 s.data.toList := by
                    have := HR.out
                    rw [List.drop_eq_nil_of_le (by rw [← Lib.size_eq]; exact Nat.le_refl _), Fd.rf_nil, List.append_nil] at this
                    exact this
                  have hnew : acc ++ X ++ [13, 10] = Fd.all (ls.take (j + 1)) := by
                    rw [hXe, HAC.out, HAS.out, HX.out]; simp [Fd.line]
                  have HNW := Lib.hid hnew
                  clear hXe hnew
                  by_cases h20 : 20000 < n4 + 2
                  · have hd20 : decide ((20000 : Int) < (n4 : Int) + 2) = true := by simp; omega
                    go_wp2_with (at_builtin; refine ap_lit wr rfl (.tmp 99) (.tmp 100) 35 5 (.int .u8 0) 1 Tryd.underlying35 info_u8 rfl (by omega) rfl w.heap.size A4 n4 c4 (bc (acc ++ X)) [.int .u8 13, .int .u8 10] rfl hown4 2 2 rfl rfl (by decide) (by omega) hsz4 ?_; intro A3 c3 w3 hown3 hb3)
                    go_roundg (k - (j + 1))
                    case measure => have := HJ.out; omega
                    case rel =>
                      refine ⟨_, _, _, acc ++ X ++ [13, 10], true, j + 1, rfl, rfl, by go_num, by omega, hb4.trans hb3, by have := hb3.size; omega, by rw [bc_append]; exact hown3, by omega, Lib.hid ⟨?_, fun h => by cases h⟩⟩
                      rw [HLS.out HLo.out.1, ← HNW.out, List.length_append, HX4.out]
                      simp [h20]
                  · have hd20 : decide ((20000 : Int) < (n4 : Int) + 2) = false := by simp; omega
                    go_wp2_with (at_builtin; refine ap_lit wr rfl (.tmp 99) (.tmp 100) 35 5 (.int .u8 0) 1 Tryd.underlying35 info_u8 rfl (by omega) rfl w.heap.size A4 n4 c4 (bc (acc ++ X)) [.int .u8 13, .int .u8 10] rfl hown4 2 2 rfl rfl (by decide) (by omega) hsz4 ?_; intro A3 c3 w3 hown3 hb3)
                    go_roundg (k - (j + 1))
                    case measure => have := HJ.out; omega
                    case rel =>
                      refine ⟨_, _, _, acc ++ X ++ [13, 10], false, j + 1, rfl, rfl, by go_num, by omega, hb4.trans hb3, by have := hb3.size; omega, by rw [bc_append]; exact hown3, by omega, Lib.hid ⟨?_, fun _ => HNW.out⟩⟩
                      rw [HLS.out HLo.out.1, ← HNW.out, List.length_append, HX4.out, ← HZ.out]
                      simp
                      omega
          · go_wp2
            refine wp_loop_rounds 1 ?_
            rw [rounds_succ]
            go_wp2_with (at_builtin; refine ap_lit wr rfl (.tmp 99) (.tmp 100) 35 5 (.int .u8 0) 1 Tryd.underlying35 info_u8 rfl (by omega) rfl w.heap.size A2 n2 c2 (bc acc) [.int .u8 13, .int .u8 10] rfl hown2 2 2 rfl rfl (by decide) (by omega) hsz2 ?_; intro A3 c3 w3 hown3 hb3)
            all_goals go_roundg (k - (j + 1))
            all_goals try (case measure => have := HJ.out; omega)
            all_goals
              refine ⟨_, _, _, acc ++ [13, 10], true, j + 1, rfl, rfl, by go_num, by omega, hb2.trans hb3, by have := hb3.size; omega, by rw [bc_append]; exact hown3, by omega, Lib.hid ⟨?_, fun h => by cases h⟩⟩
              exact Fd.long_more ls j HLo.out.1
        · obtain rfl : j = k := by have := HJ.out; omega
          have e1 : ls.take j = ls := List.take_of_length_le (by rw [HL.out]; omega)
          rw [e1] at HLo
          cases lg
          · have hcv := conv_back hown2
            rw [HLo.out.2 rfl] at hcv
            obtain ⟨f1, f2⟩ := Fd.foldE_ok ls HA.out HLo.out.1
            have HF := Lib.hid (And.intro f1 f2)
            clear e1 f1 f2
            go_wp2
            go_ret2
            rw [HF.out.1, HF.out.2]
            exact ⟨rfl, ⟨hb2⟩⟩
          · obtain ⟨f1, f2⟩ := Fd.foldE_long ls HA.out HLo.out.1
            have HF := Lib.hid (And.intro f1 f2)
            clear e1 f1 f2
            go_wp2
            go_ret2
            rw [HF.out.1, HF.out.2]
            exact ⟨rfl, ⟨hb2⟩⟩
end Go.Proofs.YtbdfkpgcjdhcdaaDoor
