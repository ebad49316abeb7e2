/- What the reference's Clean, Text and Param return. -/
import Derived.Test.YtpcmhaflmpcicaaDoorEsPm
import Derived.Test.YtpcmhaflmpcicaaDoorRefUtf
namespace Go.Proofs.YtpcmhaflmpcicaaDoor
open Go.RowKit

namespace Es
theorem bad_cases (f : Bool) (b : UInt8) (h127 : b ≠ 127) (h32 : b.toNat < 32) (h9 : b ≠ 9) : bad f b = !(f && b == 10) := by
  unfold bad
  have h3 : (b == 127) = false := by simpa using h127
  have h4 : decide (b.toNat < 32) = true := decide_eq_true h32
  have h5 : (b != 9) = true := by simpa using h9
  rw [h3, h4, h5]; simp
theorem bad_tab (f : Bool) : bad f 9 = false := by cases f <;> rfl
end Es
set_option maxHeartbeats 2000000 in
set_option maxRecDepth 100000 in
theorem clean_any (f : Bool) (s : ByteArray) (w : World) (hs : s.size ≤ 140737488355328) :
    Calls Tryd.prog 26 #[.string s, .bool f] w fun e w' => e = .returned (.int .i64 (Es.clE f s.data.toList)) ∧ w = w' := by
  have cV := utf_any s w hs
  obtain ⟨V, hV⟩ : ∃ V, Lib.validD s.data.toList = V := ⟨_, rfl⟩
  rw [hV] at cV
  cases V
  · rw [Es.clE_utf hV]
    clear hV
    go_enter Tryd.func26, Tryd.ntmps26
    go_wp2_with (go_at_call 39; refine cV.mono ?_; rintro e w1 ⟨rfl, rfl⟩)
    go_ret
    exact ⟨rfl, rfl⟩
  · have HB := Lib.hid (fun h => Es.clE_val (f := f) hV h)
    have HO := Lib.hid (fun h => Es.clE_ok (f := f) hV h)
    clear hV
    generalize Es.clE f s.data.toList = E at *
    go_enter Tryd.func26, Tryd.ntmps26
    go_wp2_with (go_at_call 39; refine cV.mono ?_; rintro e w1 ⟨rfl, rfl⟩)
    go_loopg [12] s.size (fun g v wx => ∃ i : Nat, v = .int .i64 (i : Int) ∧ i + g = s.size ∧ w = wx ∧ (s.data.toList.take i).any (Es.bad f) = false)
    case atStart => exact ⟨0, rfl, by omega, rfl, by simp⟩
    case round =>
      obtain ⟨i, rfl, hig, rfl, hno⟩ := hrel
      have HG := Lib.hid hig
      have HN := Lib.hid hno
      clear hig hno
      by_cases hi : i < s.size
      · have hlt : (s[i].toNat : Int) < 256 := by have := UInt8.toNat_lt s[i]; omega
        cases h127 : ((s[i].toNat : Int) == 127)
        · by_cases h32 : (s[i].toNat : Int) < 32
          · cases h9 : ((s[i].toNat : Int) == 9)
            · have h9n : ((s[i].toNat : Int) != 9) = true := by rw [bne, h9]; rfl
              have hbc := Es.bad_cases f s[i] (by_f 127 h127) (by omega) (by_f 9 h9)
              cases f
              · have HE := Lib.hid (HB.out (Es.any_at hi hbc))
                clear hbc
                go_wp2
                go_ret
                rw [HE.out]
                exact ⟨rfl, rfl⟩
              · cases h10 : ((s[i].toNat : Int) == 10)
                · have hb2 : (s[i] == 10) = false := by simpa using by_f 10 h10
                  rw [hb2] at hbc
                  have HE := Lib.hid (HB.out (Es.any_at hi hbc))
                  clear hbc hb2
                  go_wp2
                  go_ret
                  rw [HE.out]
                  exact ⟨rfl, rfl⟩
                · have hb2 : (s[i] == 10) = true := by simpa using by_t 10 h10
                  rw [hb2] at hbc
                  have HE := Lib.hid (Es.any_more hi HN.out hbc)
                  clear hbc hb2
                  go_wp2
                  go_roundg (s.size - (i + 1))
                  case measure => have := HG.out; omega
                  case rel => exact ⟨i + 1, by go_num, by omega, rfl, HE.out⟩
            · have h9n : ((s[i].toNat : Int) != 9) = false := by rw [bne, h9]; rfl
              have hb : Es.bad f s[i] = false := by rw [by_t 9 h9]; exact Es.bad_tab f
              have HE := Lib.hid (Es.any_more hi HN.out hb)
              clear hb
              go_wp2
              go_roundg (s.size - (i + 1))
              case measure => have := HG.out; omega
              case rel => exact ⟨i + 1, by go_num, by omega, rfl, HE.out⟩
          · have hb : Es.bad f s[i] = false := Es.bad_high f _ (by_f 127 h127) (by omega)
            have HE := Lib.hid (Es.any_more hi HN.out hb)
            clear hb
            go_wp2
            go_roundg (s.size - (i + 1))
            case measure => have := HG.out; omega
            case rel => exact ⟨i + 1, by go_num, by omega, rfl, HE.out⟩
        · have hb : Es.bad f s[i] = true := by rw [by_t 127 h127]; exact Es.bad_del f
          have HE := Lib.hid (HB.out (Es.any_at hi hb))
          clear hb
          go_wp2
          go_ret
          rw [HE.out]
          exact ⟨rfl, rfl⟩
      · have he := HN.out
        rw [take_end s i (by omega)] at he
        have HE := Lib.hid (HO.out he)
        obtain rfl : i = s.size := by have := HG.out; omega
        clear he
        go_wp2
        go_ret
        rw [HE.out]
        exact ⟨rfl, rfl⟩
theorem qu_step (s : ByteArray) (j : Nat) (h : j < s.size) : Es.qu (s.data.toList.take (j + 1)) = (Es.qu (s.data.toList.take j) || Es.qs s[j]) := by
  have h2 : j < s.data.toList.length := by rw [← Lib.size_eq]; exact h
  exact Es.qu_snoc _ j h2
namespace Es
theorem qs_no {b : UInt8} (h1 : b ≠ 58) (h2 : b ≠ 59) (h3 : b ≠ 44) : qs b = false := by simp [qs, h1, h2, h3]
theorem or_true_ (q b : Bool) (h : b = true) : (q || b) = true := by rw [h]; simp
theorem or_false_ (q b : Bool) (h : b = false) : (q || b) = q := by rw [h]; simp
end Es
set_option maxHeartbeats 8000000 in
set_option maxRecDepth 100000 in
theorem refparam_any (s : ByteArray) (w : World) (hs : s.size ≤ 400000) :
    Calls Tryd.prog 22 #[.string s] w fun e w' => e = .returned (.tuple #[.string ⟨(Es.pqT s.data.toList).toArray⟩, .int .i64 (Es.clE true s.data.toList)]) ∧ Gr w w' := by
  have cC := clean_any true s w (by omega)
  by_cases hE : Es.clE true s.data.toList = 0
  · rw [Es.pqT_ok hE]
    rw [hE] at cC ⊢
    obtain ⟨P, hP⟩ : ∃ P, Es.pq s.data.toList = P := ⟨_, rfl⟩
    rw [hP]
    have HP := Lib.hid hP
    clear hP hE
    go_enter Tryd.func22, Tryd.ntmps22
    go_wp2_with (go_at_call 26; refine cC.mono ?_; rintro e w1 ⟨rfl, rfl⟩)
    go_loopg [5, 6, 15] s.size (fun g v5 v6 v wx => ∃ A2 n2 c2, ∃ q : Bool, ∃ j : Nat, v5 = .slice A2 n2 c2 ∧ v6 = .bool q ∧ v = .int .i64 (j : Int) ∧ j + g = s.size ∧ Below w.heap.size w wx ∧ w.heap.size ≤ wx.heap.size ∧ n2 ≤ 2 * j ∧ OwnV wx w.heap.size 5 A2 n2 c2 (bc (Es.pm (s.data.toList.take j))) ∧ Hid (Es.qu (s.data.toList.take j) = q))
    case atStart => exact ⟨_, _, _, false, 0, rfl, rfl, rfl, by omega, Below.refl _ _, Nat.le_refl _, by omega, OwnV.nil _ _ _, Lib.hid rfl⟩
    case round =>
      obtain ⟨A2, n2, c2, q, j, rfl, rfl, rfl, hjg, hb2, hsz2, hn2, hown2, HQ⟩ := hrel
      have HJ := Lib.hid hjg
      clear hjg
      by_cases hj : j < s.size
      · have HS := Lib.hid (pm_step s j hj)
        have HU := Lib.hid (qu_step s j hj)
        cases h94 : ((s[j].toNat : Int) == 94)
        · cases h10 : ((s[j].toNat : Int) == 10)
          · cases h34 : ((s[j].toNat : Int) == 34)
            · cases h58 : ((s[j].toNat : Int) == 58)
              · cases h59 : ((s[j].toNat : Int) == 59)
                · cases h44 : ((s[j].toNat : Int) == 44)
                  · have HV : Hid ((q || Es.qs s[j]) = q) := Lib.hid (Es.or_false_ _ _ (Es.qs_no (by_f 58 h58) (by_f 59 h59) (by_f 44 h44)))
                    cases q
                    · have HT1 := Lib.hid (Es.p1_else (by_f 10 h10) (by_f 34 h34) (by_f 94 h94))
                      go_wp2_with (at_builtin; refine ap_bytes wr rfl (.tmp 40) (.tmp 44) rfl w.heap.size A2 n2 c2 _ [s[j]] rfl hown2 1 1 rfl rfl (by omega) hsz2 ?_; intro A3 c3 w3 hown3 hb3)
                      go_roundg (s.size - (j + 1))
                      case measure => have := HJ.out; omega
                      case rel => exact ⟨_, _, _, false, j + 1, rfl, rfl, by go_num, by omega, hb2.trans hb3, by have := hb3.size; omega, by omega, by rw [HS.out, HT1.out]; exact hown3, Lib.hid (by rw [HU.out, HQ.out]; exact HV.out)⟩
                    · have HT1 := Lib.hid (Es.p1_else (by_f 10 h10) (by_f 34 h34) (by_f 94 h94))
                      go_wp2_with (at_builtin; refine ap_bytes wr rfl (.tmp 40) (.tmp 44) rfl w.heap.size A2 n2 c2 _ [s[j]] rfl hown2 1 1 rfl rfl (by omega) hsz2 ?_; intro A3 c3 w3 hown3 hb3)
                      go_roundg (s.size - (j + 1))
                      case measure => have := HJ.out; omega
                      case rel => exact ⟨_, _, _, true, j + 1, rfl, rfl, by go_num, by omega, hb2.trans hb3, by have := hb3.size; omega, by omega, by rw [HS.out, HT1.out]; exact hown3, Lib.hid (by rw [HU.out, HQ.out]; exact HV.out)⟩
                  · have HV : Hid ((q || Es.qs s[j]) = true) := Lib.hid (Es.or_true_ _ _ (by rw [by_t 44 h44]; rfl))
                    cases q
                    · have HT1 := Lib.hid (Es.p1_else (by_f 10 h10) (by_f 34 h34) (by_f 94 h94))
                      go_wp2_with (at_builtin; refine ap_bytes wr rfl (.tmp 40) (.tmp 44) rfl w.heap.size A2 n2 c2 _ [s[j]] rfl hown2 1 1 rfl rfl (by omega) hsz2 ?_; intro A3 c3 w3 hown3 hb3)
                      go_roundg (s.size - (j + 1))
                      case measure => have := HJ.out; omega
                      case rel => exact ⟨_, _, _, true, j + 1, rfl, rfl, by go_num, by omega, hb2.trans hb3, by have := hb3.size; omega, by omega, by rw [HS.out, HT1.out]; exact hown3, Lib.hid (by rw [HU.out, HQ.out]; exact HV.out)⟩
                    · have HT1 := Lib.hid (Es.p1_else (by_f 10 h10) (by_f 34 h34) (by_f 94 h94))
                      go_wp2_with (at_builtin; refine ap_bytes wr rfl (.tmp 40) (.tmp 44) rfl w.heap.size A2 n2 c2 _ [s[j]] rfl hown2 1 1 rfl rfl (by omega) hsz2 ?_; intro A3 c3 w3 hown3 hb3)
                      go_roundg (s.size - (j + 1))
                      case measure => have := HJ.out; omega
                      case rel => exact ⟨_, _, _, true, j + 1, rfl, rfl, by go_num, by omega, hb2.trans hb3, by have := hb3.size; omega, by omega, by rw [HS.out, HT1.out]; exact hown3, Lib.hid (by rw [HU.out, HQ.out]; exact HV.out)⟩
                · have HV : Hid ((q || Es.qs s[j]) = true) := Lib.hid (Es.or_true_ _ _ (by rw [by_t 59 h59]; rfl))
                  cases q
                  · have HT1 := Lib.hid (Es.p1_else (by_f 10 h10) (by_f 34 h34) (by_f 94 h94))
                    go_wp2_with (at_builtin; refine ap_bytes wr rfl (.tmp 40) (.tmp 44) rfl w.heap.size A2 n2 c2 _ [s[j]] rfl hown2 1 1 rfl rfl (by omega) hsz2 ?_; intro A3 c3 w3 hown3 hb3)
                    go_roundg (s.size - (j + 1))
                    case measure => have := HJ.out; omega
                    case rel => exact ⟨_, _, _, true, j + 1, rfl, rfl, by go_num, by omega, hb2.trans hb3, by have := hb3.size; omega, by omega, by rw [HS.out, HT1.out]; exact hown3, Lib.hid (by rw [HU.out, HQ.out]; exact HV.out)⟩
                  · have HT1 := Lib.hid (Es.p1_else (by_f 10 h10) (by_f 34 h34) (by_f 94 h94))
                    go_wp2_with (at_builtin; refine ap_bytes wr rfl (.tmp 40) (.tmp 44) rfl w.heap.size A2 n2 c2 _ [s[j]] rfl hown2 1 1 rfl rfl (by omega) hsz2 ?_; intro A3 c3 w3 hown3 hb3)
                    go_roundg (s.size - (j + 1))
                    case measure => have := HJ.out; omega
                    case rel => exact ⟨_, _, _, true, j + 1, rfl, rfl, by go_num, by omega, hb2.trans hb3, by have := hb3.size; omega, by omega, by rw [HS.out, HT1.out]; exact hown3, Lib.hid (by rw [HU.out, HQ.out]; exact HV.out)⟩
              · have HV : Hid ((q || Es.qs s[j]) = true) := Lib.hid (Es.or_true_ _ _ (by rw [by_t 58 h58]; rfl))
                cases q
                · have HT1 := Lib.hid (Es.p1_else (by_f 10 h10) (by_f 34 h34) (by_f 94 h94))
                  go_wp2_with (at_builtin; refine ap_bytes wr rfl (.tmp 40) (.tmp 44) rfl w.heap.size A2 n2 c2 _ [s[j]] rfl hown2 1 1 rfl rfl (by omega) hsz2 ?_; intro A3 c3 w3 hown3 hb3)
                  go_roundg (s.size - (j + 1))
                  case measure => have := HJ.out; omega
                  case rel => exact ⟨_, _, _, true, j + 1, rfl, rfl, by go_num, by omega, hb2.trans hb3, by have := hb3.size; omega, by omega, by rw [HS.out, HT1.out]; exact hown3, Lib.hid (by rw [HU.out, HQ.out]; exact HV.out)⟩
                · have HT1 := Lib.hid (Es.p1_else (by_f 10 h10) (by_f 34 h34) (by_f 94 h94))
                  go_wp2_with (at_builtin; refine ap_bytes wr rfl (.tmp 40) (.tmp 44) rfl w.heap.size A2 n2 c2 _ [s[j]] rfl hown2 1 1 rfl rfl (by omega) hsz2 ?_; intro A3 c3 w3 hown3 hb3)
                  go_roundg (s.size - (j + 1))
                  case measure => have := HJ.out; omega
                  case rel => exact ⟨_, _, _, true, j + 1, rfl, rfl, by go_num, by omega, hb2.trans hb3, by have := hb3.size; omega, by omega, by rw [HS.out, HT1.out]; exact hown3, Lib.hid (by rw [HU.out, HQ.out]; exact HV.out)⟩
            · have HT1 := Lib.hid (show Es.p1 s[j] = [94, 39] by rw [by_t 34 h34]; rfl)
              have HV : Hid ((q || Es.qs s[j]) = q) := Lib.hid (Es.or_false_ _ _ (by rw [by_t 34 h34]; rfl))
              go_wp2_with (at_builtin; refine ap_bytes wr rfl (.tmp 58) (.tmp 59) rfl w.heap.size A2 n2 c2 _ [94, 39] rfl hown2 2 2 rfl rfl (by omega) hsz2 ?_; intro A3 c3 w3 hown3 hb3)
              go_roundg (s.size - (j + 1))
              case measure => have := HJ.out; omega
              case rel => exact ⟨_, _, _, q, j + 1, rfl, rfl, by go_num, by omega, hb2.trans hb3, by have := hb3.size; omega, by omega, by rw [HS.out, HT1.out]; exact hown3, Lib.hid (by rw [HU.out, HQ.out]; exact HV.out)⟩
          · have HT1 := Lib.hid (show Es.p1 s[j] = [94, 110] by rw [by_t 10 h10]; rfl)
            have HV : Hid ((q || Es.qs s[j]) = q) := Lib.hid (Es.or_false_ _ _ (by rw [by_t 10 h10]; rfl))
            go_wp2_with (at_builtin; refine ap_bytes wr rfl (.tmp 53) (.tmp 54) rfl w.heap.size A2 n2 c2 _ [94, 110] rfl hown2 2 2 rfl rfl (by omega) hsz2 ?_; intro A3 c3 w3 hown3 hb3)
            go_roundg (s.size - (j + 1))
            case measure => have := HJ.out; omega
            case rel => exact ⟨_, _, _, q, j + 1, rfl, rfl, by go_num, by omega, hb2.trans hb3, by have := hb3.size; omega, by omega, by rw [HS.out, HT1.out]; exact hown3, Lib.hid (by rw [HU.out, HQ.out]; exact HV.out)⟩
        · have HT1 := Lib.hid (show Es.p1 s[j] = [94, 94] by rw [by_t 94 h94]; rfl)
          have HV : Hid ((q || Es.qs s[j]) = q) := Lib.hid (Es.or_false_ _ _ (by rw [by_t 94 h94]; rfl))
          go_wp2_with (at_builtin; refine ap_bytes wr rfl (.tmp 48) (.tmp 49) rfl w.heap.size A2 n2 c2 _ [94, 94] rfl hown2 2 2 rfl rfl (by omega) hsz2 ?_; intro A3 c3 w3 hown3 hb3)
          go_roundg (s.size - (j + 1))
          case measure => have := HJ.out; omega
          case rel => exact ⟨_, _, _, q, j + 1, rfl, rfl, by go_num, by omega, hb2.trans hb3, by have := hb3.size; omega, by omega, by rw [HS.out, HT1.out]; exact hown3, Lib.hid (by rw [HU.out, HQ.out]; exact HV.out)⟩
      · obtain rfl : j = s.size := by have := HJ.out; omega
        rw [take_end s s.size (Nat.le_refl _)] at hown2 HQ
        have hcv := conv_back hown2
        have hq := HP.out
        cases q
        · rw [Es.pq_out HQ.out] at hq
          rw [hq] at hcv
          clear hq
          go_wp2
          go_ret2
          exact ⟨rfl, ⟨hb2⟩⟩
        · rw [Es.pq_in HQ.out] at hq
          have HR : Hid ((⟨P.toArray⟩ : ByteArray) = ⟨(34 :: (Es.pm s.data.toList ++ [34])).toArray⟩) := Lib.hid (by rw [hq])
          rw [quote_cat] at HR
          clear hq
          have hpz : (ByteArray.mk (Es.pm s.data.toList).toArray).size ≤ 800000 := by rw [size_mk]; have := Es.pm_len s.data.toList; rw [← Lib.size_eq] at this; omega
          generalize (ByteArray.mk (Es.pm s.data.toList).toArray) = pb at *
          have hpz1 : ((⟨#[34]⟩ : ByteArray) ++ pb).size ≤ 800001 := by rw [ByteArray.size_append]; show 1 + _ ≤ _; omega
          go_wp2
          go_ret2
          rw [HR.out]
          exact ⟨rfl, ⟨hb2⟩⟩
  · rw [Es.pqT_no hE]
    have hEn : ((Es.clE true s.data.toList : Int) != 0) = true := by simpa using hE
    generalize Es.clE true s.data.toList = E at *
    clear hE
    go_enter Tryd.func22, Tryd.ntmps22
    go_wp2_with (go_at_call 26; refine cC.mono ?_; rintro e w1 ⟨rfl, rfl⟩)
    go_ret2
    exact ⟨rfl, Gr.refl _⟩
end Go.Proofs.YtpcmhaflmpcicaaDoor
