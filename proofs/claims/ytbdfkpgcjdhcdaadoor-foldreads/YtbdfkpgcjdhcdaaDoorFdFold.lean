/- What fold.Fold returns. -/
import Derived.Test.YtbdfkpgcjdhcdaaDoorFdApp
namespace Go.Proofs.YtbdfkpgcjdhcdaaDoor
open Go.RowKit

namespace Fd
theorem all_take_fine (ls : List (List UInt8)) (k : Nat) (h : k < ls.length) (h0 : (ls.take k).all fine = true) (h1 : fine ls[k] = true) : (ls.take (k + 1)).all fine = true := by
  rw [List.take_succ_eq_append_getElem h, List.all_append, h0]; simp [h1]
theorem not_all_fine (ls : List (List UInt8)) (k : Nat) (h : k < ls.length) (h1 : fine ls[k] = false) : ls.all fine = false := by
  rw [List.all_eq_false]; exact ⟨ls[k], List.getElem_mem h, by simp [h1]⟩
theorem foldE_bad (ls : List (List UInt8)) (h : ls.all fine = false) : foldE ls = 5 ∧ foldT ls = [] := by
  have : foldE ls = 5 := by unfold foldE; rw [if_pos h]
  exact ⟨this, by unfold foldT; rw [this]; simp⟩
theorem foldE_long (ls : List (List UInt8)) (h : ls.all fine = true) (hl : long ls = true) : foldE ls = 4 ∧ foldT ls = [] := by
  have : foldE ls = 4 := by unfold foldE; rw [if_neg (by simp [h]), if_pos hl]
  exact ⟨this, by unfold foldT; rw [this]; simp⟩
theorem foldE_ok (ls : List (List UInt8)) (h : ls.all fine = true) (hl : long ls = false) : foldE ls = 0 ∧ foldT ls = all ls := by
  have : foldE ls = 0 := by unfold foldE; rw [if_neg (by simp [h]), if_neg (by simp [hl])]
  exact ⟨this, by unfold foldT; rw [this]; simp⟩
end Fd

set_option maxHeartbeats 4000000 in
set_option maxRecDepth 100000 in
theorem fold_any (A : Option Addr) (n c : Nat) (ls : List (List UInt8)) (w : World) (ht : Tab w) (hS : Strs w w.heap.size A n ls) (hn : n ≤ 40000) (hlen : ∀ l ∈ ls, l.length ≤ 40000) :
    Calls Tryd.prog 9 #[.slice A n c] w fun e w' => e = .returned (.tuple #[.string ⟨(Fd.foldT ls).toArray⟩, .int .i64 (Fd.foldE ls)]) ∧ Gr w w' := by
  have hl : ls.length = n := hS.1
  have HL := Lib.hid hl
  have hlt0 := ht.lt
  clear hl
  go_enter Tryd.func9, Tryd.ntmps9
  go_wp2
  go_loopg [11] n (fun g v wx => ∃ k : Nat, v = .int .i64 (k : Int) ∧ k + g = n ∧ Gr w wx ∧ (ls.take k).all Fd.fine = true)
  case atStart => exact ⟨0, rfl, by omega, Gr.refl _, by simp⟩
  case round =>
    obtain ⟨k, rfl, hkg, hg, hf⟩ := hrel
    have HG := Lib.hid (And.intro hkg hf)
    by_cases hk : k < n
    · obtain ⟨ad, hk', rfl, hbl, hcell⟩ := (hS.keep hg.below).at_ hk
      have hle := hlen _ (List.getElem_mem hk')
      have cF := foldable_any ⟨ls[k].toArray⟩ wr (by rw [size_mk]; omega)
      have ed : (ByteArray.mk ls[k].toArray).data.toList = ls[k] := rfl
      rw [ed] at cF
      have HN := Lib.hid (fun h => Fd.not_all_fine ls k hk' h)
      have HY := Lib.hid (fun h => Fd.all_take_fine ls k hk' HG.out.2 h)
      obtain ⟨F, hF⟩ : ∃ F, Fd.fine ls[k] = F := ⟨_, rfl⟩
      rw [hF] at cF
      have HF := Lib.hid hF
      clear hF hkg hf ed hle
      generalize (ByteArray.mk ls[k].toArray) = s at *
      cases F
      · go_wp2_with (go_at_call 15; refine cF.mono ?_; rintro e w1 ⟨rfl, hg1⟩)
        go_ret2
        obtain ⟨e1, e2⟩ := Fd.foldE_bad ls (HN.out HF.out)
        rw [e1, e2]
        exact ⟨rfl, hg.trans hg1⟩
      · go_wp2_with (go_at_call 15; refine cF.mono ?_; rintro e w1 ⟨rfl, hg1⟩)
        go_roundg (n - (k + 1))
        case measure => have := HG.out.1; omega
        case rel => exact ⟨k + 1, by go_num, by omega, hg.trans hg1, HY.out HF.out⟩
    · have e1 : ls.take k = ls := List.take_of_length_le (by rw [HL.out]; omega)
      rw [e1] at hf
      have HA := Lib.hid hf
      obtain rfl : k = n := by omega
      clear hf e1 hkg HG
      have htr := ht.keep hg
      go_wp2
      go_loopg [6, 21] k (fun g v6 v wx => ∃ A2 n2 c2, ∃ j : Nat, v6 = .slice A2 n2 c2 ∧ v = .int .i64 (j : Int) ∧ j + g = k ∧ Below w.heap.size w wx ∧ w.heap.size ≤ wx.heap.size ∧ Tab wx ∧ OwnV wx w.heap.size 5 A2 n2 c2 (bc (Fd.all (ls.take j))) ∧ Hid (Fd.long (ls.take j) = false))
      case atStart => exact ⟨_, _, _, 0, rfl, rfl, by omega, hg.below, hg.lt, htr, OwnV.nil _ _ _, Lib.hid (by simp [Fd.long, Fd.all])⟩
      case round =>
        obtain ⟨A2, n2, c2, j, rfl, rfl, hjg, hb2, hsz2, ht2, hown2, HLo⟩ := hrel
        have HJ := Lib.hid hjg
        have hn2 : (Fd.all (ls.take j)).length = n2 := by simpa [bc] using hown2.len
        have hn20 : n2 ≤ 20000 := by
          have := HLo.out
          unfold Fd.long at this
          rw [Bool.or_eq_false_iff] at this
          have := this.2
          simp at this
          omega
        clear hjg
        by_cases hj : j < k
        · obtain ⟨ad, hj', rfl, hbl, hcell⟩ := (hS.keep hb2).at_ hj
          have hle := hlen _ (List.getElem_mem hj')
          have hls := Fd.long_succ ls j hj' HLo.out
          have has := Fd.all_take_succ ls j hj'
          have hfj : Fd.fine ls[j] = true := List.all_eq_true.1 HA.out _ (List.getElem_mem hj')
          have hne : ls[j] ≠ [] := (Fd.fine_parts hfj).1
          have hz : (ByteArray.mk ls[j].toArray).size = ls[j].length := size_mk _
          have hpos : 0 < ls[j].length := List.length_pos_iff.2 hne
          have HX := Lib.hid (And.intro hls (And.intro has hn2))
          have ed : (ByteArray.mk ls[j].toArray).data.toList = ls[j] := rfl
          have cA := fun (h : ls[j].length ≤ 100000) => appendFolded_any w.heap.size A2 n2 c2 (Fd.all (ls.take j)) ⟨ls[j].toArray⟩ wr ht2 hlt0.1 hlt0.2 hsz2 hown2 (by omega) (by rw [hz]; exact h) (by rw [hz]; exact hpos)
          have cA := cA (by omega)
          rw [ed] at cA
          rw [← hz] at hpos hle
          have HZ := Lib.hid hz
          clear hls has hne hfj hz ed hn2
          generalize (ByteArray.mk ls[j].toArray) = s at *
          by_cases h2000 : 2000 < s.size
          · go_wp2
            go_ret2
            have hl1 : Fd.long ls = true := Fd.long_take ls (j + 1) (by rw [HX.out.1, ← HZ.out]; simp [h2000])
            obtain ⟨e1, e2⟩ := Fd.foldE_long ls HA.out hl1
            rw [e1, e2]
            exact ⟨rfl, ⟨hb2⟩⟩
          · go_wp2_with (go_at_call 16; refine cA.mono ?_; rintro e w3 ⟨A3, n3, c3, rfl, hown3, hb3⟩)
            · go_ret2
              have hh : 20000 < n3 := by omega
              have hln : (Fd.all (ls.take j) ++ Fd.line ls[j]).length = n3 := by simpa [bc] using hown3.len
              have hl1 : Fd.long ls = true := Fd.long_take ls (j + 1) (by rw [HX.out.1, HX.out.2.1, hln]; simp [hh])
              obtain ⟨e1, e2⟩ := Fd.foldE_long ls HA.out hl1
              rw [e1, e2]
              exact ⟨rfl, ⟨hb2.trans hb3⟩⟩
            · go_roundg (k - (j + 1))
              case measure => have := HJ.out; omega
              case rel =>
                have hln : (Fd.all (ls.take j) ++ Fd.line ls[j]).length = n3 := by simpa [bc] using hown3.len
                refine ⟨_, _, _, j + 1, rfl, by go_num, by omega, hb2.trans hb3, by have := hb3.size; omega, ht2.low hb3 hlt0.1 hlt0.2, ?_, ?_⟩
                · rw [HX.out.2.1]; exact hown3
                · refine Lib.hid ?_
                  rw [HX.out.1, HX.out.2.1, hln, ← HZ.out]
                  simp
                  omega
        · obtain rfl : j = k := by have := HJ.out; omega
          have e1 : ls.take j = ls := List.take_of_length_le (by rw [HL.out]; omega)
          rw [e1] at hown2 HLo
          have hcv := conv_back hown2
          obtain ⟨f1, f2⟩ := Fd.foldE_ok ls HA.out HLo.out
          have HF := Lib.hid (And.intro f1 f2)
          clear e1 f1 f2 hn2
          go_wp2
          go_ret2
          rw [HF.out.1, HF.out.2]
          exact ⟨rfl, ⟨hb2⟩⟩
end Go.Proofs.YtbdfkpgcjdhcdaaDoor
