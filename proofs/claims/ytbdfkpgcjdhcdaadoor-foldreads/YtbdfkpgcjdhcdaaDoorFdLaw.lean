/- What the laws' own helpers return: awake, few, Same. -/
import Derived.Test.YtbdfkpgcjdhcdaaDoorRefFold
namespace Go.Proofs.YtbdfkpgcjdhcdaaDoor
open Go.RowKit

namespace Fd
theorem aw_line : line [97] = [97, 13, 10] := by
  have hw : wd [97] = 1 := by decide
  unfold line
  rw [rf_same 0 [97] (by decide) (by rw [hw]; omega), hw]
  simp [rf_nil]
theorem aw_fold : foldE [[97]] = 0 ∧ foldT [[97]] = [97, 13, 10] := by
  have ha : all [[97]] = [97, 13, 10] := by unfold all; simp [aw_line]
  obtain ⟨e1, e2⟩ := foldE_ok [[97]] (by decide) (by unfold long; rw [ha]; decide)
  exact ⟨e1, e2.trans ha⟩
end Fd

set_option maxHeartbeats 1000000 in
theorem awake_any (w : World) (ht : Tab w) : Calls Tryd.prog 7 #[] w fun e w' => e = .returned (.bool true) ∧ Gr w w' := by
  have hg : Gr w (w.alloc (.cells #[.string ⟨#[97]⟩] 9)) := (Gr.refl w).allocO _
  have hS : Strs (w.alloc (.cells #[.string ⟨#[97]⟩] 9)) (w.alloc (.cells #[.string ⟨#[97]⟩] 9)).heap.size (some ⟨w.heap.size, 0, none⟩) 1 [[97]] := by
    refine ⟨rfl, fun _ => ⟨⟨w.heap.size, 0, none⟩, rfl, by simp, fun j u hu => ?_⟩⟩
    have hj : j = 0 := by
      have := (List.getElem?_eq_some_iff.1 hu).1
      simp at this; omega
    subst hj
    have : u = [97] := by simpa using hu.symm
    subst this
    show World.cell? _ ⟨w.heap.size, 0, none⟩ = _
    rw [cell_of_row _ w.heap.size 0 _ 9 (0, 0) (heap_alloc_new w _)]
    rfl
  have cF := fold_any (some ⟨w.heap.size, 0, none⟩) 1 1 [[97]] _ (ht.keep hg) hS (by omega) (by intro l hl; simp at hl; subst hl; simp)
  rw [Fd.aw_fold.1, Fd.aw_fold.2] at cF
  have HG := Lib.hid hg
  clear hS hg
  go_enter Tryd.func7, Tryd.ntmps7
  go_wp2_with (go_at_call 9; refine cF.mono ?_; rintro e w' ⟨rfl, hg2⟩)
  go_ret
  exact ⟨rfl, HG.out.trans hg2⟩

set_option maxHeartbeats 1000000 in
set_option maxRecDepth 100000 in
theorem few_any (A : Option Addr) (n c : Nat) (ls : List (List UInt8)) (w : World) (hS : Strs w w.heap.size A n ls) (hn : n ≤ 140737488355328) (hlen : ∀ l ∈ ls, l.length ≤ 140737488355328) :
    Calls Tryd.prog 8 #[.slice A n c] w fun e w' => ∃ b, e = .returned (.bool b) ∧ w = w' ∧ (b = true → n ≤ 30000 ∧ ∀ l ∈ ls, l.length ≤ 30000) := by
  have hl : ls.length = n := hS.1
  have HL := Lib.hid hl
  clear hl
  go_enter Tryd.func8, Tryd.ntmps8
  go_wp2
  go_loopg [3, 7] n (fun g v3 v wx => ∃ k m : Nat, v3 = .int .i64 (m : Int) ∧ v = .int .i64 (k : Int) ∧ k + g = n ∧ w = wx ∧ k ≤ m ∧ m ≤ 30000 ∧ ∀ l ∈ ls.take k, l.length ≤ 30000)
  case atStart => exact ⟨0, 0, rfl, rfl, by omega, rfl, by omega, by omega, by simp⟩
  case round =>
    obtain ⟨k, m, rfl, rfl, hkg, rfl, hkm, hm, hall⟩ := hrel
    have HG := Lib.hid (And.intro hkg hall)
    clear hkg hall
    by_cases hk : k < n
    · obtain ⟨ad, hk', rfl, hbl, hcell⟩ := hS.at_ hk
      have hle := hlen _ (List.getElem_mem hk')
      have hz : (ByteArray.mk ls[k].toArray).size = ls[k].length := size_mk _
      have HT := Lib.hid (List.take_succ_eq_append_getElem hk')
      rw [← hz] at hle
      have HZ := Lib.hid hz
      clear hz
      generalize (ByteArray.mk ls[k].toArray) = s at *
      by_cases h3 : (30000 : Int) < (m : Int) + (s.size : Int) + 1
      · go_wp2
        go_ret
        exact ⟨false, rfl, rfl, fun h => by cases h⟩
      · go_wp2
        go_roundg (n - (k + 1))
        case measure => have := HG.out.1; omega
        case rel =>
          refine ⟨k + 1, m + s.size + 1, by go_num, by go_num, by omega, rfl, by omega, by omega, fun l hl => ?_⟩
          rw [HT.out] at hl
          rcases List.mem_append.1 hl with hl | hl
          · exact HG.out.2 l hl
          · have : l = ls[k] := by simpa using hl
            rw [this, ← HZ.out]; omega
    · obtain rfl : k = n := by have := HG.out.1; omega
      go_wp2
      go_ret
      refine ⟨true, rfl, rfl, fun _ => ⟨by omega, fun l hl => HG.out.2 l ?_⟩⟩
      rw [List.take_of_length_le (by rw [HL.out]; exact Nat.le_refl _)]
      exact hl

set_option maxHeartbeats 1000000 in
theorem same_yes (A A2 : Option Addr) (n c n2 c2 : Nat) (ls ms : List (List UInt8)) (w : World) (hS : Strs w w.heap.size A n ls) (hS2 : Strs w w.heap.size A2 n2 ms) (he : ls = ms) (hn : n ≤ 140737488355328) :
    Calls Tryd.prog 13 #[.slice A n c, .slice A2 n2 c2] w fun e w' => e = .returned (.bool true) ∧ Gr w w' := by
  subst he
  have hl : ls.length = n := hS.1
  obtain rfl : n = n2 := hl.symm.trans hS2.1
  have HL := Lib.hid hl
  clear hl
  go_enter Tryd.func13, Tryd.ntmps13
  go_wp2
  go_loopg [13] n (fun g v wx => ∃ k : Nat, v = .int .i64 (k : Int) ∧ k + g = n ∧ ∃ d, wx = w.drewN d)
  case atStart => exact ⟨0, rfl, by omega, 0, rfl⟩
  case round =>
    obtain ⟨k, rfl, hkg, d, rfl⟩ := hrel
    have HG := Lib.hid hkg
    clear hkg
    by_cases hk : k < n
    · obtain ⟨ad, hk', rfl, hbl, hcell⟩ := hS.at_ hk
      obtain ⟨ad2, _, rfl, hbl2, hcell2⟩ := hS2.at_ hk
      generalize (ByteArray.mk ls[k].toArray) = s at *
      go_wp2
      go_region
      all_goals (try go_wp2)
      go_roundg (n - (k + 1))
      case measure => have := HG.out; omega
      case rel => exact ⟨k + 1, by go_num, by omega, d + 1, rfl⟩
    · obtain rfl : k = n := by have := HG.out; omega
      go_wp2
      go_ret
      exact ⟨rfl, (Gr.refl _).drewN _⟩
end Go.Proofs.YtbdfkpgcjdhcdaaDoor
