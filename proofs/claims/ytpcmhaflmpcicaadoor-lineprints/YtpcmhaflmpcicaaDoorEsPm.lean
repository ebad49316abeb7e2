/- What escape.Param returns. -/
import Derived.Test.YtpcmhaflmpcicaaDoorEsTx
namespace Go.Proofs.YtpcmhaflmpcicaaDoor
open Go.RowKit

theorem asc3 : Asc ⟨#[58, 59, 44]⟩ := ⟨by decide, by decide, by decide⟩
theorem quote_cat (l : List UInt8) : (⟨(34 :: (l ++ [34])).toArray⟩ : ByteArray) = (⟨#[34]⟩ : ByteArray) ++ ⟨l.toArray⟩ ++ ⟨#[34]⟩ := by
  refine (str_data ?_).symm
  rw [cat_data, cat_data]; simp
namespace Es
theorem pq_in {l : List UInt8} (h : qu l = true) : pq l = 34 :: (pm l ++ [34]) := by unfold pq; rw [if_pos h]
theorem pq_out {l : List UInt8} (h : qu l = false) : pq l = pm l := by unfold pq; rw [if_neg (by simp [h])]
end Es
set_option maxHeartbeats 4000000 in
set_option maxRecDepth 100000 in
theorem param_any (s : ByteArray) (w : World) (ht : Tab w) (hs : s.size ≤ 400000) :
    Calls Tryd.prog 21 #[.string s] w fun e w' => e = .returned (.tuple #[.string ⟨(Es.pqT s.data.toList).toArray⟩, .int .i64 (Es.clE true s.data.toList)]) ∧ Gr w w' := by
  have cC := check_any true s w ht (by omega)
  rw [ctl_true] at cC
  by_cases hE : Es.clE true s.data.toList = 0
  · rw [Es.pqT_ok hE]
    rw [hE] at cC ⊢
    obtain ⟨P, hP⟩ : ∃ P, Es.pq s.data.toList = P := ⟨_, rfl⟩
    rw [hP]
    have HP := Lib.hid hP
    clear hP hE
    go_enter Tryd.func21, Tryd.ntmps21
    go_wp2_with (go_at_call 35; refine cC.mono ?_; rintro e w1 ⟨rfl, hg1⟩)
    go_loopg [5, 15] s.size (fun g v5 v wx => ∃ A2 n2 c2, ∃ j : Nat, v5 = .slice A2 n2 c2 ∧ v = .int .i64 (j : Int) ∧ j + g = s.size ∧ Below w.heap.size w wx ∧ w.heap.size ≤ wx.heap.size ∧ n2 ≤ 2 * j ∧ OwnV wx w.heap.size 5 A2 n2 c2 (bc (Es.pm (s.data.toList.take j))))
    case atStart => exact ⟨_, _, _, 0, rfl, rfl, by omega, hg1.below, hg1.lt, by omega, OwnV.nil _ _ _⟩
    case round =>
      obtain ⟨A2, n2, c2, j, rfl, rfl, hjg, hb2, hsz2, hn2, hown2⟩ := hrel
      have HJ := Lib.hid hjg
      clear hjg
      by_cases hj : j < s.size
      · have HS := Lib.hid (pm_step s j hj)
        cases h10 : ((s[j].toNat : Int) == 10)
        · cases h34 : ((s[j].toNat : Int) == 34)
          · cases h94 : ((s[j].toNat : Int) == 94)
            · have HT1 := Lib.hid (Es.p1_else (by_f 10 h10) (by_f 34 h34) (by_f 94 h94))
              go_wp2_with (at_builtin; refine ap_bytes wr rfl (.tmp 22) (.tmp 24) rfl w.heap.size A2 n2 c2 _ [s[j]] rfl hown2 1 1 rfl rfl (by omega) hsz2 ?_; intro A3 c3 w3 hown3 hb3)
              go_roundg (s.size - (j + 1))
              case measure => have := HJ.out; omega
              case rel => exact ⟨_, _, _, j + 1, rfl, by go_num, by omega, hb2.trans hb3, by have := hb3.size; omega, by omega, by rw [HS.out, HT1.out]; exact hown3⟩
            · have HT1 := Lib.hid (show Es.p1 s[j] = [94, 94] by rw [by_t 94 h94]; rfl)
              go_wp2_with (at_builtin; refine ap_bytes wr rfl (.tmp 38) (.tmp 39) rfl w.heap.size A2 n2 c2 _ [94, 94] rfl hown2 2 2 rfl rfl (by omega) hsz2 ?_; intro A3 c3 w3 hown3 hb3)
              go_roundg (s.size - (j + 1))
              case measure => have := HJ.out; omega
              case rel => exact ⟨_, _, _, j + 1, rfl, by go_num, by omega, hb2.trans hb3, by have := hb3.size; omega, by omega, by rw [HS.out, HT1.out]; exact hown3⟩
          · have HT1 := Lib.hid (show Es.p1 s[j] = [94, 39] by rw [by_t 34 h34]; rfl)
            go_wp2_with (at_builtin; refine ap_bytes wr rfl (.tmp 33) (.tmp 34) rfl w.heap.size A2 n2 c2 _ [94, 39] rfl hown2 2 2 rfl rfl (by omega) hsz2 ?_; intro A3 c3 w3 hown3 hb3)
            go_roundg (s.size - (j + 1))
            case measure => have := HJ.out; omega
            case rel => exact ⟨_, _, _, j + 1, rfl, by go_num, by omega, hb2.trans hb3, by have := hb3.size; omega, by omega, by rw [HS.out, HT1.out]; exact hown3⟩
        · have HT1 := Lib.hid (show Es.p1 s[j] = [94, 110] by rw [by_t 10 h10]; rfl)
          go_wp2_with (at_builtin; refine ap_bytes wr rfl (.tmp 28) (.tmp 29) rfl w.heap.size A2 n2 c2 _ [94, 110] rfl hown2 2 2 rfl rfl (by omega) hsz2 ?_; intro A3 c3 w3 hown3 hb3)
          go_roundg (s.size - (j + 1))
          case measure => have := HJ.out; omega
          case rel => exact ⟨_, _, _, j + 1, rfl, by go_num, by omega, hb2.trans hb3, by have := hb3.size; omega, by omega, by rw [HS.out, HT1.out]; exact hown3⟩
      · obtain rfl : j = s.size := by have := HJ.out; omega
        rw [take_end s s.size (Nat.le_refl _)] at hown2
        have cA := cany_any ⟨#[58, 59, 44]⟩ asc3 s wr (by omega)
        have HQ := HP.out
        obtain ⟨Q, hQ⟩ : ∃ Q, Es.qu s.data.toList = Q := ⟨_, rfl⟩
        have e2 : (s.data.toList.any ((ByteArray.mk #[58, 59, 44]).data.toList.contains ·)) = Es.qu s.data.toList := rfl
        rw [e2, hQ] at cA
        clear e2
        cases Q
        · rw [Es.pq_out hQ] at HQ
          rw [HQ] at hown2
          clear hQ HQ
          go_wp2_with fail
          refine cA.mono ?_
          rintro e w4 ⟨rfl, hg4⟩
          have hcv := conv_back (hown2.gr hg4)
          go_wp2
          go_ret2
          exact ⟨rfl, ⟨hb2.trans (hg4.low hsz2)⟩⟩
        · rw [Es.pq_in hQ] at HQ
          have HR : Hid ((⟨P.toArray⟩ : ByteArray) = ⟨(34 :: (Es.pm s.data.toList ++ [34])).toArray⟩) := Lib.hid (by rw [HQ])
          clear hQ HQ
          go_wp2_with fail
          refine cA.mono ?_
          rintro e w4 ⟨rfl, hg4⟩
          have hcv := conv_back (hown2.gr hg4)
          rw [quote_cat] at HR
          have hpz : (ByteArray.mk (Es.pm s.data.toList).toArray).size ≤ 800000 := by rw [size_mk]; have := Es.pm_len s.data.toList; rw [← Lib.size_eq] at this; omega
          generalize (ByteArray.mk (Es.pm s.data.toList).toArray) = pb at *
          have hpz1 : ((⟨#[34]⟩ : ByteArray) ++ pb).size ≤ 800001 := by rw [ByteArray.size_append]; show 1 + _ ≤ _; omega
          go_wp2
          go_ret2
          rw [HR.out]
          exact ⟨rfl, ⟨hb2.trans (hg4.low hsz2)⟩⟩
  · rw [Es.pqT_no hE]
    have hEn : ((Es.clE true s.data.toList : Int) != 0) = true := by simpa using hE
    generalize Es.clE true s.data.toList = E at *
    clear hE
    go_enter Tryd.func21, Tryd.ntmps21
    go_wp2_with (go_at_call 35; refine cC.mono ?_; rintro e w1 ⟨rfl, hg1⟩)
    go_ret2
    exact ⟨rfl, hg1⟩
end Go.Proofs.YtpcmhaflmpcicaaDoor
