/- The texts RfPut, RfSet, RfPm, RfM, RfBd, one behind the other. -/
import Derived.Test.YtleeklcpbflfhaaGreatDoorZRfLeaf
import Derived.Test.YtleeklcpbflfhaaGreatDoorZU
import Derived.Test.YtleeklcpbflfhaaGreatDoorZY
import Derived.Test.YtleeklcpbflfhaaGreatDoorZRefPt
import Derived.Test.YtleeklcpbflfhaaGreatDoorZR
import Derived.Test.YtleeklcpbflfhaaGreatDoorZV
import Derived.Test.YtleeklcpbflfhaaGreatDoorZRcForm
import Derived.Test.YtleeklcpbflfhaaGreatDoorZRcFmM
namespace Go.Proofs.YtleeklcpbflfhaaGreatDoor
open Go.RowKit

set_option maxRecDepth 100000 in
set_option maxHeartbeats 4000000 in
theorem rput_any (i : Nat) (hi : i < 8) (b : Nat) (A : Option Addr) (n c : Nat) (v : Value) (w : World) (hc : w.cell? ⟨b, Rm.off i, none⟩ = some v) (hf : w.frozen? ⟨b, Rm.off i, none⟩ = false) :
    Calls Tryz.prog 82 #[.pointer (some ⟨b, 0, none⟩), .int .i64 (i : Int), .slice A n c] w fun e w' => (∃ u, e = .returned u) ∧ w' = w.setCell ⟨b, Rm.off i, none⟩ (.slice A n c) := by
  rcases (show i = 0 ∨ i = 1 ∨ i = 2 ∨ i = 3 ∨ i = 4 ∨ i = 5 ∨ i = 6 ∨ i = 7 by omega) with rfl | rfl | rfl | rfl | rfl | rfl | rfl | rfl
  all_goals
    simp only [Rm.off] at hc hf
    go_enter Tryz.func82, Tryz.ntmps82
    go_wp2
    go_end0
    exact ⟨⟨_, rfl⟩, rfl⟩
/- the lists of V' are V's, or new -/
def Frs (h : Nat) (V V' : Rm.Rv) : Prop :=
  (∀ i, i < 8 → V'.sl i = V.sl i ∨ (0 < (V'.sl i).n → ∀ ad, (V'.sl i).A = some ad → h ≤ ad.block)) ∧ (V'.day = V.day ∨ (0 < V'.day.n → ∀ ad, V'.day.A = some ad → h ≤ ad.block))
theorem Frs.r (h : Nat) (V : Rm.Rv) (r : Rm.Ru) (z : ByteArray) : Frs h V { V with r := r, z := z } :=
  ⟨fun i hi => by
    rcases (show i = 0 ∨ i = 1 ∨ i = 2 ∨ i = 3 ∨ i = 4 ∨ i = 5 ∨ i = 6 ∨ i = 7 by omega) with rfl | rfl | rfl | rfl | rfl | rfl | rfl | rfl <;> exact Or.inl rfl, Or.inl rfl⟩
theorem Frs.day (h : Nat) (V : Rm.Rv) (r : Rm.Ru) (s : Rm.Sl) (hs : 0 < s.n → ∀ ad, s.A = some ad → h ≤ ad.block) : Frs h V { V with r := r, day := s } :=
  ⟨fun i hi => by
    rcases (show i = 0 ∨ i = 1 ∨ i = 2 ∨ i = 3 ∨ i = 4 ∨ i = 5 ∨ i = 6 ∨ i = 7 by omega) with rfl | rfl | rfl | rfl | rfl | rfl | rfl | rfl <;> exact Or.inl rfl, Or.inr hs⟩
theorem Frs.ls (h : Nat) (V : Rm.Rv) {i : Nat} (hi : i < 8) (s : Rm.Sl) (xs : List Int) (hs : 0 < s.n → ∀ ad, s.A = some ad → h ≤ ad.block) : Frs h V (V.setL i s xs) :=
  ⟨fun j hj => by
    obtain ⟨_, e⟩ := Rm.setL_ls V hi s xs hj
    rw [e]
    by_cases hji : j = i
    · rw [if_pos hji]
      exact Or.inr hs
    · rw [if_neg hji]
      exact Or.inl rfl, Or.inl (Rm.setL_day V hi s xs).1⟩
/- what set does with a part -/
def SetR (B b : Nat) (V : Rm.Rv) (nm tx : List UInt8) (w : World) (e : Ending) (w' : World) : Prop :=
  ∃ kn ok, e = .returned (.tuple #[.bool kn, .bool ok]) ∧ Sm (fun k => k ≠ b) w w' ∧ ((kn = true ∧ nm ∈ Rm.names ∧ ∃ V', RdM w' B b V' ∧ Frs w.heap.size V V' ∧ ((ok = true ∧ Rm.runP (some V.r) (nm, tx) = some V'.r) ∨ (ok = false ∧ Rm.runP (some V.r) (nm, tx) = none))) ∨ (kn = false ∧ nm ∉ Rm.names))
namespace Rm
theorem freqT_inj {j k : Nat} (hj : j < 4) (hk : k < 4) (h : freqT ((j : Int) + 1) = freqT ((k : Int) + 1)) : j = k := by
  rcases (show j = 0 ∨ j = 1 ∨ j = 2 ∨ j = 3 by omega) with rfl | rfl | rfl | rfl <;> rcases (show k = 0 ∨ k = 1 ∨ k = 2 ∨ k = 3 by omega) with rfl | rfl | rfl | rfl <;> first | rfl | (exact absurd h (by decide))
theorem freqR_none {l : List UInt8} (h : ∀ j : Nat, j < 4 → freqT ((j : Int) + 1) ≠ l) : freqR l = none := by
  unfold freqR
  rw [if_neg (fun e => h 0 (by decide) (by rw [e]; rfl)), if_neg (fun e => h 1 (by decide) (by rw [e]; rfl)), if_neg (fun e => h 2 (by decide) (by rw [e]; rfl)), if_neg (fun e => h 3 (by decide) (by rw [e]; rfl))]
end Rm
set_option maxRecDepth 100000 in
set_option maxHeartbeats 4000000 in
theorem rset_freq (tx : List UInt8) (B b : Nat) (V : Rm.Rv) (w : World) (hM : RdM w B b V) :
    Calls Tryz.prog 39 #[.pointer (some ⟨b, 0, none⟩), .string ⟨Rm.nFREQ.toArray⟩, .string ⟨tx.toArray⟩] w (SetR B b V Rm.nFREQ tx w) := by
  have hs0 : (Rm.nFREQ == [70, 82, 69, 81]) = true := by decide
  have HMem := Lib.hid (show Rm.nFREQ ∈ Rm.names by decide)
  have HR : Hid (Rm.runP (some V.r) (Rm.nFREQ, tx) = (Rm.freqR tx).map fun x => { V.r with freq := x }) := Lib.hid (by
    show (Rm.setP V.r Rm.nFREQ tx).bind id = _
    rw [Rm.setP, if_pos rfl]
    rfl)
  have HM := Lib.hid hM
  have c0 := hM.box.c0
  have f0 := hM.free 0
  generalize Rm.nFREQ = nm at *
  clear hM
  go_enter Tryz.func39, Tryz.ntmps39
  go_wp2
  go_loopg [8, 9] 4 (fun g v8 v wx => ∃ k : Nat, v = .int .i64 ((k : Int) + 1) ∧ k + g = 4 ∧ ((v8 = .bool false ∧ w = wx ∧ Hid (∀ j : Nat, j < k → Rm.freqT ((j : Int) + 1) ≠ tx)) ∨ (v8 = .bool true ∧ ∃ j : Nat, Hid (j < k ∧ j < 4 ∧ Rm.freqT ((j : Int) + 1) = tx) ∧ wx = w.setCell ⟨b, 0, none⟩ (.int .i64 ((j : Int) + 1)))))
  case atStart => exact ⟨0, rfl, rfl, Or.inl ⟨rfl, rfl, Lib.hid (fun j h => by omega)⟩⟩
  case round =>
    obtain ⟨k, rfl, hkg, hor⟩ := hrel
    have HG := Lib.hid hkg
    clear hkg
    by_cases hk : k < 4
    · have hkn : (k : Int) + 1 ≤ 4 := by omega
      have cF := fun w => rfreq_any k hk w
      by_cases he : Rm.freqT ((k : Int) + 1) = tx
      · have hq : ((ByteArray.mk (Rm.freqT ((k : Int) + 1)).toArray).toList == (ByteArray.mk tx.toArray).toList) = true := by rw [he]; simp
        rcases hor with ⟨rfl, rfl, HX⟩ | ⟨rfl, j, HJ, rfl⟩
        · have HE := Lib.hid he
          clear he
          generalize (ByteArray.mk (Rm.freqT ((k : Int) + 1)).toArray) = t at *
          generalize (ByteArray.mk tx.toArray) = T at *
          go_wp2_with (go_at_call 21; refine (cF _).mono ?_; rintro e w' ⟨rfl, rfl⟩)
          go_roundg (4 - (k + 1))
          case measure => have := HG.out; omega
          case rel => exact ⟨k + 1, by go_num, by omega, Or.inr ⟨rfl, k, Lib.hid ⟨by omega, hk, HE.out⟩, rfl⟩⟩
        · exact absurd (Rm.freqT_inj HJ.out.2.1 hk (by rw [HJ.out.2.2, he])) (by have := HJ.out.1; omega)
      · have hq : ((ByteArray.mk (Rm.freqT ((k : Int) + 1)).toArray).toList == (ByteArray.mk tx.toArray).toList) = false := str_eq ⟨(fun h => by cases h), (fun h => absurd h he)⟩
        have HE := Lib.hid he
        clear he
        generalize (ByteArray.mk (Rm.freqT ((k : Int) + 1)).toArray) = t at *
        generalize (ByteArray.mk tx.toArray) = T at *
        rcases hor with ⟨rfl, rfl, HX⟩ | ⟨rfl, j, HJ, rfl⟩
        · go_wp2_with (go_at_call 21; refine (cF _).mono ?_; rintro e w' ⟨rfl, rfl⟩)
          go_roundg (4 - (k + 1))
          case measure => have := HG.out; omega
          case rel =>
            refine ⟨k + 1, by go_num, by omega, Or.inl ⟨rfl, rfl, Lib.hid (fun j hj => ?_)⟩⟩
            by_cases h : j = k
            · rw [h]; exact HE.out
            · exact HX.out j (by omega)
        · go_wp2_with (go_at_call 21; refine (cF _).mono ?_; rintro e w' ⟨rfl, rfl⟩)
          go_roundg (4 - (k + 1))
          case measure => have := HG.out; omega
          case rel => exact ⟨k + 1, by go_num, by omega, Or.inr ⟨rfl, j, Lib.hid ⟨by have := HJ.out.1; omega, HJ.out.2⟩, rfl⟩⟩
    · obtain rfl : k = 4 := by have := HG.out; omega
      rcases hor with ⟨rfl, rfl, HX⟩ | ⟨rfl, j, HJ, rfl⟩
      · have HF := Lib.hid (Rm.freqR_none HX.out)
        go_wp2
        go_ret2
        exact ⟨true, false, rfl, Sm.refl _ _, Or.inl ⟨rfl, HMem.out, V, HM.out, Frs.r _ V V.r V.z, Or.inr ⟨rfl, by rw [HR.out, HF.out]; rfl⟩⟩⟩
      · have HF : Hid (Rm.freqR tx = some ((j : Int) + 1)) := Lib.hid (by rw [← HJ.out.2.2]; exact Rm.freqR_T (by omega) (by have := HJ.out.2.1; omega))
        go_wp2
        go_ret2
        exact ⟨true, true, rfl, Sm.setCell _ _ _ _ (fun e => e rfl), Or.inl ⟨rfl, HMem.out, _, HM.out.set_freq _, Frs.r _ _ _ _, Or.inl ⟨rfl, by rw [HR.out, HF.out]; rfl⟩⟩⟩
end Go.Proofs.YtleeklcpbflfhaaGreatDoor
namespace Go.Proofs.YtleeklcpbflfhaaGreatDoor
open Go.RowKit

set_option maxRecDepth 100000 in
set_option maxHeartbeats 4000000 in
theorem rset_ivl (tx : List UInt8) (B b : Nat) (V : Rm.Rv) (w : World) (hl : tx.length ≤ 100000) (hM : RdM w B b V) :
    Calls Tryz.prog 39 #[.pointer (some ⟨b, 0, none⟩), .string ⟨Rm.nINTERVAL.toArray⟩, .string ⟨tx.toArray⟩] w (SetR B b V Rm.nINTERVAL tx w) := by
  have HMem := Lib.hid (show Rm.nINTERVAL ∈ Rm.names by decide)
  have hs0 : (Rm.nINTERVAL == [70, 82, 69, 81]) = false := by decide
  have hs1 : (Rm.nINTERVAL == [73, 78, 84, 69, 82, 86, 65, 76]) = true := by decide
  have HR : Hid (Rm.runP (some V.r) (Rm.nINTERVAL, tx) = (Rm.cntR tx).map fun x => { V.r with ivl := x }) := Lib.hid (by
    show (Rm.setP V.r Rm.nINTERVAL tx).bind id = _
    rw [Rm.setP, if_neg (by decide), if_pos rfl]
    rfl)
  have HM := Lib.hid hM
  have c0 := hM.box.c1
  have f0 := hM.free 1
  have cF := fun w' => rcount_any ⟨tx.toArray⟩ w' (by rw [size_mk]; exact hl)
  rw [show (ByteArray.mk tx.toArray).data.toList = tx from rfl] at cF
  generalize Rm.nINTERVAL = nm at *
  clear hM hl
  go_enter Tryz.func39, Tryz.ntmps39
  go_wp2_with (go_at_call 77; refine (cF _).mono ?_; rintro e w' ⟨v, q, rfl, hq, rfl⟩)
  go_ret2
  refine ⟨true, q, rfl, Sm.setCell _ _ _ _ (fun e => e rfl), Or.inl ⟨rfl, HMem.out, _, HM.out.set_ivl v, Frs.r _ _ _ _, ?_⟩⟩
  rw [HR.out]
  rcases hq with ⟨rfl, h⟩ | ⟨rfl, h⟩
  · rw [h]
    exact Or.inl ⟨rfl, rfl⟩
  · rw [h]
    exact Or.inr ⟨rfl, rfl⟩
set_option maxRecDepth 100000 in
set_option maxHeartbeats 4000000 in
theorem rset_cnt (tx : List UInt8) (B b : Nat) (V : Rm.Rv) (w : World) (hl : tx.length ≤ 100000) (hM : RdM w B b V) :
    Calls Tryz.prog 39 #[.pointer (some ⟨b, 0, none⟩), .string ⟨Rm.nCOUNT.toArray⟩, .string ⟨tx.toArray⟩] w (SetR B b V Rm.nCOUNT tx w) := by
  have HMem := Lib.hid (show Rm.nCOUNT ∈ Rm.names by decide)
  have hs0 : (Rm.nCOUNT == [70, 82, 69, 81]) = false := by decide
  have hs1 : (Rm.nCOUNT == [73, 78, 84, 69, 82, 86, 65, 76]) = false := by decide
  have hs2 : (Rm.nCOUNT == [67, 79, 85, 78, 84]) = true := by decide
  have HR : Hid (Rm.runP (some V.r) (Rm.nCOUNT, tx) = (Rm.cntR tx).map fun x => { V.r with cnt := x }) := Lib.hid (by
    show (Rm.setP V.r Rm.nCOUNT tx).bind id = _
    rw [Rm.setP, if_neg (by decide), if_neg (by decide), if_pos rfl]
    rfl)
  have HM := Lib.hid hM
  have c0 := hM.box.c2
  have f0 := hM.free 2
  have cF := fun w' => rcount_any ⟨tx.toArray⟩ w' (by rw [size_mk]; exact hl)
  rw [show (ByteArray.mk tx.toArray).data.toList = tx from rfl] at cF
  generalize Rm.nCOUNT = nm at *
  clear hM hl
  go_enter Tryz.func39, Tryz.ntmps39
  go_wp2_with (go_at_call 77; refine (cF _).mono ?_; rintro e w' ⟨v, q, rfl, hq, rfl⟩)
  go_ret2
  refine ⟨true, q, rfl, Sm.setCell _ _ _ _ (fun e => e rfl), Or.inl ⟨rfl, HMem.out, _, HM.out.set_cnt v, Frs.r _ _ _ _, ?_⟩⟩
  rw [HR.out]
  rcases hq with ⟨rfl, h⟩ | ⟨rfl, h⟩
  · rw [h]
    exact Or.inl ⟨rfl, rfl⟩
  · rw [h]
    exact Or.inr ⟨rfl, rfl⟩
set_option maxRecDepth 100000 in
set_option maxHeartbeats 4000000 in
theorem rset_st (tx : List UInt8) (B b : Nat) (V : Rm.Rv) (w : World) (hM : RdM w B b V) :
    Calls Tryz.prog 39 #[.pointer (some ⟨b, 0, none⟩), .string ⟨Rm.nWKST.toArray⟩, .string ⟨tx.toArray⟩] w (SetR B b V Rm.nWKST tx w) := by
  have HMem := Lib.hid (show Rm.nWKST ∈ Rm.names by decide)
  have hs0 : (Rm.nWKST == [70, 82, 69, 81]) = false := by decide
  have hs1 : (Rm.nWKST == [73, 78, 84, 69, 82, 86, 65, 76]) = false := by decide
  have hs2 : (Rm.nWKST == [67, 79, 85, 78, 84]) = false := by decide
  have hs3 : (Rm.nWKST == [85, 78, 84, 73, 76]) = false := by decide
  have hs4 : (Rm.nWKST == [87, 75, 83, 84]) = true := by decide
  have HR : Hid (Rm.runP (some V.r) (Rm.nWKST, tx) = if 0 ≤ Rm.which tx then some { V.r with st := Rm.which tx } else none) := Lib.hid (by
    show (Rm.setP V.r Rm.nWKST tx).bind id = _
    rw [Rm.setP, if_neg (by decide), if_neg (by decide), if_neg (by decide), if_neg (by decide), if_neg (by decide), if_neg (by decide), if_neg (by decide), if_neg (by decide), if_neg (by decide), if_neg (by decide), if_neg (by decide), if_neg (by decide), if_neg (by decide), if_pos rfl]
    rfl)
  have HM := Lib.hid hM
  have c0 := hM.box.c7
  have f0 := hM.free 7
  have cF := fun w' => rwhich_any ⟨tx.toArray⟩ w'
  rw [show (ByteArray.mk tx.toArray).data.toList = tx from rfl] at cF
  generalize Rm.nWKST = nm at *
  generalize Rm.which tx = v at *
  clear hM
  go_enter Tryz.func39, Tryz.ntmps39
  go_upto_region 23 with (go_at_call 79; refine (cF _).mono ?_; rintro e w' ⟨rfl, rfl⟩)
  have c1 : (w.setCell ⟨b, 7, none⟩ (.int .i64 v)).cell? ⟨b, 7, none⟩ = some (.int .i64 v) := World.cell?_setCell_same _ _ _ c0
  have hsm : Sm (fun k => k ≠ b) w (w.setCell ⟨b, 7, none⟩ (.int .i64 v)) := Sm.setCell _ _ _ _ (fun e => e rfl)
  have hMs := Lib.hid (HM.out.set_st v)
  generalize w.setCell ⟨b, 7, none⟩ (.int .i64 v) = W at *
  have v1 := after_cell c1
  refine wp_region_after (by kernel_rfl) (by kernel_rfl) ?_
  repeat (go_big_quiet_step (fail))
  refine wpQuiet_nil ?_
  rintro w6 ⟨⟨w7, hg6⟩, hh⟩
  replace hh : w6 = w7 := hh
  subst hh
  have hg6 : Gr W w6 := hg6
  go_wp2
  go_ret2
  refine ⟨true, decide (0 ≤ v), rfl, hsm.trans (hg6.sm _), Or.inl ⟨rfl, HMem.out, _, hMs.out.gr hg6, Frs.r _ _ _ _, ?_⟩⟩
  rw [HR.out]
  by_cases h : 0 ≤ v
  · rw [if_pos h]
    exact Or.inl ⟨decide_eq_true h, rfl⟩
  · rw [if_neg h]
    exact Or.inr ⟨decide_eq_false h, rfl⟩
set_option maxRecDepth 100000 in
set_option maxHeartbeats 4000000 in
theorem rset_day (tx : List UInt8) (B b : Nat) (V : Rm.Rv) (w : World) (hB : B ≤ w.heap.size) (hl : tx.length ≤ 100000) (hM : RdM w B b V) :
    Calls Tryz.prog 39 #[.pointer (some ⟨b, 0, none⟩), .string ⟨Rm.nBYDAY.toArray⟩, .string ⟨tx.toArray⟩] w (SetR B b V Rm.nBYDAY tx w) := by
  have HMem := Lib.hid (show Rm.nBYDAY ∈ Rm.names by decide)
  have hs0 : (Rm.nBYDAY == [70, 82, 69, 81]) = false := by decide
  have hs1 : (Rm.nBYDAY == [73, 78, 84, 69, 82, 86, 65, 76]) = false := by decide
  have hs2 : (Rm.nBYDAY == [67, 79, 85, 78, 84]) = false := by decide
  have hs3 : (Rm.nBYDAY == [85, 78, 84, 73, 76]) = false := by decide
  have hs4 : (Rm.nBYDAY == [87, 75, 83, 84]) = false := by decide
  have hs5 : (Rm.nBYDAY == [66, 89, 68, 65, 89]) = true := by decide
  have HR : Hid (Rm.runP (some V.r) (Rm.nBYDAY, tx) = (Rm.ldr tx).map fun x => { V.r with day := x }) := Lib.hid (by
    show (Rm.setP V.r Rm.nBYDAY tx).bind id = _
    rw [Rm.setP, if_neg (by decide), if_neg (by decide), if_neg (by decide), if_neg (by decide), if_neg (by decide), if_neg (by decide), if_neg (by decide), if_pos rfl]
    rfl)
  have HM := Lib.hid hM
  have hbl : b < w.heap.size := World.block_lt_of_cell? _ _ hM.box.c0
  have cF := fun w' => rlistD_any ⟨tx.toArray⟩ w' (by rw [size_mk]; exact hl)
  rw [show (ByteArray.mk tx.toArray).data.toList = tx from rfl] at cF
  generalize Rm.nBYDAY = nm at *
  clear hM hl
  go_enter Tryz.func39, Tryz.ntmps39
  go_wp2_with (go_at_call 80; refine (cF _).mono ?_; rintro e w1 ⟨A, n, c, q, rfl, hg1, hq⟩; have HQ := Lib.hid hq; clear hq; have HM1 := Lib.hid (HM.out.gr hg1); have c11 := HM1.out.box.c11; have f11 := HM1.out.free 11)
  go_ret2
  have hlt := hg1.lt
  rcases HQ.out with ⟨rfl, xs, h, hD, ho⟩ | ⟨rfl, h, rfl, rfl, rfl⟩
  · refine ⟨true, true, rfl, (hg1.sm _).trans (Sm.setCell _ _ _ _ (fun e => e rfl)), Or.inl ⟨rfl, HMem.out, _, HM1.out.set_day A n c xs hD (fun hn ad e => by have := ho hn ad e; exact ⟨by omega, by omega⟩), Frs.day _ _ _ _ ho, Or.inl ⟨rfl, by rw [HR.out, h]; rfl⟩⟩⟩
  · exact ⟨true, false, rfl, (hg1.sm _).trans (Sm.setCell _ _ _ _ (fun e => e rfl)), Or.inl ⟨rfl, HMem.out, _, HM1.out.set_day none 0 0 [] (Pr2.nil _ _ _) (fun hn => absurd hn (by omega)), Frs.day _ _ _ _ (fun h => absurd h (Nat.lt_irrefl 0)), Or.inr ⟨rfl, by rw [HR.out, h]; rfl⟩⟩⟩
set_option maxRecDepth 100000 in
set_option maxHeartbeats 4000000 in
theorem rset_unt (tx : List UInt8) (B b : Nat) (V : Rm.Rv) (w : World) (hl : tx.length ≤ 100000) (hM : RdM w B b V) :
    Calls Tryz.prog 39 #[.pointer (some ⟨b, 0, none⟩), .string ⟨Rm.nUNTIL.toArray⟩, .string ⟨tx.toArray⟩] w (SetR B b V Rm.nUNTIL tx w) := by
  have HMem := Lib.hid (show Rm.nUNTIL ∈ Rm.names by decide)
  have hs0 : (Rm.nUNTIL == [70, 82, 69, 81]) = false := by decide
  have hs1 : (Rm.nUNTIL == [73, 78, 84, 69, 82, 86, 65, 76]) = false := by decide
  have hs2 : (Rm.nUNTIL == [67, 79, 85, 78, 84]) = false := by decide
  have hs3 : (Rm.nUNTIL == [85, 78, 84, 73, 76]) = true := by decide
  have HR : Hid (Rm.runP (some V.r) (Rm.nUNTIL, tx) = (Rm.utR tx).map fun x => { V.r with uk := x.1, ua := x.2.1, uz := x.2.2, has := true }) := Lib.hid (by
    show (Rm.setP V.r Rm.nUNTIL tx).bind id = _
    rw [Rm.setP, if_neg (by decide), if_neg (by decide), if_neg (by decide), if_pos rfl]
    rfl)
  have HM := Lib.hid hM
  have hXs := size_mk tx
  have cP := fun (d : Bool) w' => rptime_any ⟨tx.toArray⟩ ⟨#[]⟩ d w' (by omega) (by decide)
  rw [show (ByteArray.mk tx.toArray).data.toList = tx from rfl, show (ByteArray.mk #[]).data.toList = [] from rfl] at cP
  have hd : (decide (tx.length = 8)) = (((ByteArray.mk tx.toArray).size : Int) == 8) := by rw [hXs, Bool.eq_iff_iff, decide_eq_true_eq, beq_iff_eq]; omega
  obtain ⟨k, a, z, c, hV, hq⟩ := rdV_cases (Rm.utR tx)
  have cP := fun w' => cP (((ByteArray.mk tx.toArray).size : Int) == 8) w'
  have e2 : Va.rd tx [] (((ByteArray.mk tx.toArray).size : Int) == 8) = Rm.utR tx := by rw [← hd]; rfl
  rw [e2, hV] at cP
  have HQ := Lib.hid hq
  generalize Rm.nUNTIL = nm at *
  generalize Rm.utR tx = o at *
  clear hd e2 hV hq hM hXs
  generalize (ByteArray.mk tx.toArray) = T at *
  clear hl
  go_enter Tryz.func39, Tryz.ntmps39
  go_upto_region 19 with (first | (go_at_call 78; refine (cP _).mono ?_; rintro e w1 ⟨rfl, hg1⟩) | (refine wpList_store_row rfl 23 (.tmp 10) (.tmp 61) rfl w1.heap.size #[.int .i64 k, .int .i64 a, .string z] rfl rfl 23 _ (heap_alloc_new _ _) info_time rfl (time_one _ _ _) ?_; rw [World.setRow_alloc_new]; have hg2 := hg1.allocO (.cells #[.int .i64 k, .int .i64 a, .string z] 23); have hg3 := Gr.refl (w1.alloc (.cells #[.int .i64 k, .int .i64 a, .string z] 23)); obtain ⟨d0, d1, d2⟩ := box3 hg3; have HM2 := Lib.hid (HM.out.gr hg2); have c3 := HM2.out.box.c3; have c4 := HM2.out.box.c4; have c5 := HM2.out.box.c5; have c6 := HM2.out.box.c6; have f3 := HM2.out.free 3; have f4 := HM2.out.free 4; have f5 := HM2.out.free 5; have f6 := HM2.out.free 6; clear hg3; generalize w1.alloc (.cells #[.int .i64 k, .int .i64 a, .string z] 23) = W2 at *))
  go_upto_region 20 with fail
  have hsm := Lib.hid ((hg2.sm (fun k => k ≠ b)).trans (sm_set4 W2 b k a z true))
  have hMs := Lib.hid (HM2.out.set_unt k a z true)
  unfold set4 at hsm hMs
  generalize World.setCell _ _ _ = W3 at *
  clear c3 c4 c5 c6 f3 f4 f5 f6 d0 d1 d2 hg2 HM2 HM hg1
  go_wp2
  go_ret2
  refine ⟨true, c == 0, rfl, hsm.out, Or.inl ⟨rfl, HMem.out, _, hMs.out, Frs.r _ _ _ _, ?_⟩⟩
  rw [HR.out]
  rcases HQ.out with ⟨h1, h⟩ | ⟨h1, h⟩
  · rw [h]
    exact Or.inl ⟨h1, rfl⟩
  · rw [h]
    exact Or.inr ⟨h1, rfl⟩
set_option maxRecDepth 100000 in
set_option maxHeartbeats 4000000 in
theorem rset_ls {i : Nat} (hi : i < 8) (tx : List UInt8) (B b : Nat) (V : Rm.Rv) (w : World) (hB : B ≤ w.heap.size) (hl : tx.length ≤ 100000) (hM : RdM w B b V) :
    Calls Tryz.prog 39 #[.pointer (some ⟨b, 0, none⟩), .string ⟨(Rm.nmL i).toArray⟩, .string ⟨tx.toArray⟩] w (SetR B b V (Rm.nmL i) tx w) := by
  have hcs : i = 0 ∨ i = 1 ∨ i = 2 ∨ i = 3 ∨ i = 4 ∨ i = 5 ∨ i = 6 ∨ i = 7 := by omega
  have HMem := Lib.hid (show Rm.nmL i ∈ Rm.names by rcases hcs with rfl | rfl | rfl | rfl | rfl | rfl | rfl | rfl <;> decide)
  have hs0 : (Rm.nmL i == [70, 82, 69, 81]) = false := by rcases hcs with rfl | rfl | rfl | rfl | rfl | rfl | rfl | rfl <;> decide
  have hs1 : (Rm.nmL i == [73, 78, 84, 69, 82, 86, 65, 76]) = false := by rcases hcs with rfl | rfl | rfl | rfl | rfl | rfl | rfl | rfl <;> decide
  have hs2 : (Rm.nmL i == [67, 79, 85, 78, 84]) = false := by rcases hcs with rfl | rfl | rfl | rfl | rfl | rfl | rfl | rfl <;> decide
  have hs3 : (Rm.nmL i == [85, 78, 84, 73, 76]) = false := by rcases hcs with rfl | rfl | rfl | rfl | rfl | rfl | rfl | rfl <;> decide
  have hs4 : (Rm.nmL i == [87, 75, 83, 84]) = false := by rcases hcs with rfl | rfl | rfl | rfl | rfl | rfl | rfl | rfl <;> decide
  have hs5 : (Rm.nmL i == [66, 89, 68, 65, 89]) = false := by rcases hcs with rfl | rfl | rfl | rfl | rfl | rfl | rfl | rfl <;> decide
  have HR := Lib.hid (Rm.run_list V.r hi tx)
  have HM := Lib.hid hM
  have hbl : b < w.heap.size := World.block_lt_of_cell? _ _ hM.box.c0
  have cL := fun w' => rlist_any i hi ⟨tx.toArray⟩ w' (by rw [size_mk]; exact hl)
  rw [show (ByteArray.mk tx.toArray).data.toList = tx from rfl] at cL
  have HNE := Lib.hid (fun (k : Nat) (hk : k < 8) (h : Rm.nmL k = Rm.nmL i) => Rm.nmL_eq hi hk h)
  have HPut := Lib.hid (fun (A : Option Addr) (n c : Nat) (W : World) (h : RdM W B b V) => rput_any i hi b A n c _ W (h.box.at_ hi) (h.free _))
  have HSet := Lib.hid (fun (W : World) (A : Option Addr) (n c : Nat) (xs : List Int) (h : RdM W B b V) (hN : Nums W W.heap.size A n xs) (ho : 0 < n → ∀ ad, A = some ad → ad.block ≠ b ∧ B ≤ ad.block) => h.set_ls hi A n c xs hN ho)
  have HSr := Lib.hid (fun (s : Rm.Sl) (xs : List Int) => Rm.setL_r V hi s xs)
  have HFr := Lib.hid (fun (s : Rm.Sl) (xs : List Int) (hs : 0 < s.n → ∀ ad, s.A = some ad → w.heap.size ≤ ad.block) => Frs.ls w.heap.size V hi s xs hs)
  generalize hnm : Rm.nmL i = nm at *
  clear hM hl hcs
  go_enter Tryz.func39, Tryz.ntmps39
  go_wp2
  go_loopg [95] 8 (fun g v wx => ∃ k : Nat, v = .int .i64 (k : Int) ∧ k + g = 8 ∧ k ≤ i ∧ w = wx)
  case atStart => exact ⟨0, rfl, rfl, Nat.zero_le _, rfl⟩
  case round =>
    obtain ⟨k, rfl, hkg, hki, rfl⟩ := hrel
    have HG := Lib.hid hkg
    clear hkg
    have hk : k < 8 := by omega
    have hkn : (k : Int) < 8 := by omega
    have cP := fun w => rpart_any k hk w
    by_cases he : k = i
    · subst he
      rw [hnm] at cP
      generalize (ByteArray.mk nm.toArray) = t at *
      generalize (ByteArray.mk tx.toArray) = T at *
      clear hnm
      go_wp2_with (first | (go_at_call 58; refine (cP _).mono ?_; rintro e w' ⟨rfl, rfl⟩) | (go_at_call 81; refine (cL _).mono ?_; rintro e w1 ⟨A, n, c, q, rfl, hg1, hq⟩; have HQ := Lib.hid hq; clear hq; have HM1 := Lib.hid (HM.out.gr hg1); have cU := HPut.out A n c w1 HM1.out) | (go_at_call 82; refine cU.mono ?_; rintro e w2 ⟨⟨u, rfl⟩, rfl⟩))
      go_ret2
      have hlt := hg1.lt
      rcases HQ.out with ⟨rfl, xs, h, hN, ho⟩ | ⟨rfl, h, rfl, rfl, rfl⟩
      · exact ⟨true, true, rfl, (hg1.sm _).trans (Sm.setCell _ _ _ _ (fun e => e rfl)), Or.inl ⟨rfl, HMem.out, _, HSet.out w1 A n c xs HM1.out hN (fun hn ad e => by have := ho hn ad e; exact ⟨by omega, by omega⟩), HFr.out _ _ ho, Or.inl ⟨rfl, by rw [HR.out, h, HSr.out]; rfl⟩⟩⟩
      · exact ⟨true, false, rfl, (hg1.sm _).trans (Sm.setCell _ _ _ _ (fun e => e rfl)), Or.inl ⟨rfl, HMem.out, _, HSet.out w1 none 0 0 [] HM1.out (Nums.nil _ _ _) (fun hn => absurd hn (by omega)), HFr.out _ _ (fun h => absurd h (Nat.lt_irrefl 0)), Or.inr ⟨rfl, by rw [HR.out, h]; rfl⟩⟩⟩
    · have hne : ((ByteArray.mk (Rm.nmL k).toArray).toList == (ByteArray.mk nm.toArray).toList) = false := str_eq ⟨(fun h => by cases h), (fun h => absurd (HNE.out k hk h) he)⟩
      generalize (ByteArray.mk (Rm.nmL k).toArray) = u at *
      generalize (ByteArray.mk nm.toArray) = t at *
      generalize (ByteArray.mk tx.toArray) = T at *
      clear hnm
      go_wp2_with (go_at_call 58; refine (cP _).mono ?_; rintro e w' ⟨rfl, rfl⟩)
      go_roundg (8 - (k + 1))
      case measure => have := HG.out; omega
      case rel => exact ⟨k + 1, by go_num, by omega, by omega, rfl⟩
set_option maxRecDepth 100000 in
set_option maxHeartbeats 4000000 in
theorem rset_out (nm tx : List UInt8) (B b : Nat) (V : Rm.Rv) (w : World) (hn : nm ∉ Rm.names) :
    Calls Tryz.prog 39 #[.pointer (some ⟨b, 0, none⟩), .string ⟨nm.toArray⟩, .string ⟨tx.toArray⟩] w (SetR B b V nm tx w) := by
  have hs0 : (nm == [70, 82, 69, 81]) = false := beq_eq_false_iff_ne.2 (fun e => hn (by rw [e]; decide))
  have hs1 : (nm == [73, 78, 84, 69, 82, 86, 65, 76]) = false := beq_eq_false_iff_ne.2 (fun e => hn (by rw [e]; decide))
  have hs2 : (nm == [67, 79, 85, 78, 84]) = false := beq_eq_false_iff_ne.2 (fun e => hn (by rw [e]; decide))
  have hs3 : (nm == [85, 78, 84, 73, 76]) = false := beq_eq_false_iff_ne.2 (fun e => hn (by rw [e]; decide))
  have hs4 : (nm == [87, 75, 83, 84]) = false := beq_eq_false_iff_ne.2 (fun e => hn (by rw [e]; decide))
  have hs5 : (nm == [66, 89, 68, 65, 89]) = false := beq_eq_false_iff_ne.2 (fun e => hn (by rw [e]; decide))
  have HNE := Lib.hid (fun (k : Nat) (hk : k < 8) (h : Rm.nmL k = nm) => hn (by
    rw [← h]
    rcases (show k = 0 ∨ k = 1 ∨ k = 2 ∨ k = 3 ∨ k = 4 ∨ k = 5 ∨ k = 6 ∨ k = 7 by omega) with rfl | rfl | rfl | rfl | rfl | rfl | rfl | rfl <;> decide))
  have HN := Lib.hid hn
  clear hn
  go_enter Tryz.func39, Tryz.ntmps39
  go_wp2
  go_loopg [95] 8 (fun g v wx => ∃ k : Nat, v = .int .i64 (k : Int) ∧ k + g = 8 ∧ w = wx)
  case atStart => exact ⟨0, rfl, rfl, rfl⟩
  case round =>
    obtain ⟨k, rfl, hkg, rfl⟩ := hrel
    have HG := Lib.hid hkg
    clear hkg
    by_cases hk : k < 8
    · have hkn : (k : Int) < 8 := by omega
      have cP := fun w => rpart_any k hk w
      have hne : ((ByteArray.mk (Rm.nmL k).toArray).toList == (ByteArray.mk nm.toArray).toList) = false := str_eq ⟨(fun h => by cases h), (fun h => (HNE.out k hk h).elim)⟩
      generalize (ByteArray.mk (Rm.nmL k).toArray) = u at *
      generalize (ByteArray.mk nm.toArray) = t at *
      generalize (ByteArray.mk tx.toArray) = T at *
      go_wp2_with (go_at_call 58; refine (cP _).mono ?_; rintro e w' ⟨rfl, rfl⟩)
      go_roundg (8 - (k + 1))
      case measure => have := HG.out; omega
      case rel => exact ⟨k + 1, by go_num, by omega, rfl⟩
    · obtain rfl : k = 8 := by have := HG.out; omega
      go_wp2
      go_ret2
      exact ⟨false, false, rfl, Sm.refl _ _, Or.inr ⟨rfl, HN.out⟩⟩
theorem rset_any (nm tx : List UInt8) (B b : Nat) (V : Rm.Rv) (w : World) (hB : B ≤ w.heap.size) (hl : tx.length ≤ 100000) (hM : RdM w B b V) :
    Calls Tryz.prog 39 #[.pointer (some ⟨b, 0, none⟩), .string ⟨nm.toArray⟩, .string ⟨tx.toArray⟩] w (SetR B b V nm tx w) := by
  by_cases hn : nm ∈ Rm.names
  · unfold Rm.names at hn
    simp only [List.mem_cons, List.not_mem_nil, or_false] at hn
    rcases hn with rfl | rfl | rfl | rfl | rfl | rfl | rfl | rfl | rfl | rfl | rfl | rfl | rfl | rfl
    · exact rset_freq tx B b V w hM
    · exact rset_ivl tx B b V w hl hM
    · exact rset_cnt tx B b V w hl hM
    · exact rset_unt tx B b V w hl hM
    · exact rset_ls (i := 0) (by decide) tx B b V w hB hl hM
    · exact rset_ls (i := 1) (by decide) tx B b V w hB hl hM
    · exact rset_ls (i := 2) (by decide) tx B b V w hB hl hM
    · exact rset_day tx B b V w hB hl hM
    · exact rset_ls (i := 3) (by decide) tx B b V w hB hl hM
    · exact rset_ls (i := 4) (by decide) tx B b V w hB hl hM
    · exact rset_ls (i := 5) (by decide) tx B b V w hB hl hM
    · exact rset_ls (i := 6) (by decide) tx B b V w hB hl hM
    · exact rset_ls (i := 7) (by decide) tx B b V w hB hl hM
    · exact rset_st tx B b V w hM
  · exact rset_out nm tx B b V w hn
end Go.Proofs.YtleeklcpbflfhaaGreatDoor
namespace Go.Proofs.YtleeklcpbflfhaaGreatDoor
open Go.RowKit Go.Lib

namespace Rm
def tw (l : List UInt8) : Nat := (l.takeWhile notEq).length
theorem tw_le : ∀ l : List UInt8, tw l ≤ l.length
  | [] => Nat.le_refl _
  | b :: l => by
    have ih := tw_le l
    unfold tw at *
    rw [List.takeWhile_cons]
    split
    · simpa using ih
    · simp
theorem tw_ne : ∀ (l : List UInt8) (k : Nat) (x : UInt8), k < tw l → l[k]? = some x → x ≠ 61
  | [], k, x, h, _ => by simp [tw] at h
  | b :: l, k, x, h, hx => by
    have ih := tw_ne l
    unfold tw at *
    rw [List.takeWhile_cons] at h
    by_cases hb : notEq b = true
    · rw [if_pos hb, List.length_cons] at h
      cases k with
      | zero =>
        obtain rfl : b = x := by simpa using hx
        simpa [notEq] using hb
      | succ k => exact ih k x (by omega) (by simpa using hx)
    · rw [if_neg hb] at h
      simp at h
theorem tw_hit : ∀ (l : List UInt8) (x : UInt8), l[tw l]? = some x → x = 61
  | [], x, h => by simp at h
  | b :: l, x, h => by
    have ih := tw_hit l
    unfold tw at *
    rw [List.takeWhile_cons] at h
    by_cases hb : notEq b = true
    · rw [if_pos hb, List.length_cons] at h
      exact ih x (by simpa using h)
    · rw [if_neg hb] at h
      obtain rfl : b = x := by simpa using h
      simpa [notEq] using hb
theorem split_tw : ∀ l : List UInt8, splitEq l = if tw l < l.length then some (l.take (tw l), l.drop (tw l + 1)) else none
  | [] => rfl
  | b :: l => by
    have ih := split_tw l
    unfold tw splitEq at *
    rw [List.takeWhile_cons, List.dropWhile_cons]
    by_cases hb : notEq b = true
    · rw [if_pos hb, if_pos hb]
      cases hd : l.dropWhile notEq with
      | nil =>
        rw [hd] at ih
        by_cases h : (l.takeWhile notEq).length < l.length
        · rw [if_pos h] at ih; cases ih
        · rw [if_neg (by simpa using h)]
      | cons c v =>
        rw [hd] at ih
        by_cases h : (l.takeWhile notEq).length < l.length
        · rw [if_pos h] at ih
          rw [if_pos (by simpa using h)]
          injection ih with ih
          injection ih with h1 h2
          dsimp only
          rw [List.length_cons, List.take_succ_cons, List.drop_succ_cons, ← h1, ← h2]
        · rw [if_neg h] at ih; cases ih
    · rw [if_neg hb, if_neg hb]
      simp
theorem stepR_fold_none : ∀ l : List (List UInt8), l.foldl stepR none = none
  | [] => rfl
  | _ :: l => stepR_fold_none l
theorem stepR_snoc (s : Option St) (pre : List (List UInt8)) (x : List UInt8) : (pre ++ [x]).foldl stepR s = stepR (pre.foldl stepR s) x := by
  rw [List.foldl_append]; rfl
theorem stepR_stop {s : Option St} {pre ts : List (List UInt8)} (hp : pre <+: ts) (h : pre.foldl stepR s = none) : ts.foldl stepR s = none := by
  obtain ⟨r, rfl⟩ := hp
  rw [List.foldl_append, h, stepR_fold_none]
theorem stepR_cut {st : St} {x : List UInt8} (h : splitEq x = none) : stepR (some st) x = none := by
  unfold stepR
  rw [Option.bind_some, h]
  rfl
theorem stepR_dup {st : St} {x : List UInt8} {p : List UInt8 × List UInt8} (h : splitEq x = some p) (hd : p.1 ∈ st.ns) : stepR (some st) x = none := by
  unfold stepR
  rw [Option.bind_some, h, Option.bind_some, if_pos hd]
theorem stepR_unk {st : St} {x : List UInt8} {p : List UInt8 × List UInt8} (h : splitEq x = some p) (hd : p.1 ∉ names) : stepR (some st) x = none := by
  unfold stepR
  rw [Option.bind_some, h, Option.bind_some, if_neg hd]
  split <;> rfl
theorem stepR_ok {st : St} {x : List UInt8} {p : List UInt8 × List UInt8} (h : splitEq x = some p) (hd : p.1 ∉ st.ns) (hn : p.1 ∈ names) : stepR (some st) x = some ⟨runP st.r p, p.1 :: st.ns, st.fq || p.1 == nFREQ⟩ := by
  unfold stepR
  rw [Option.bind_some, h, Option.bind_some, if_neg hd, if_pos hn]
end Rm
/- append(names, name): whatever is not the row's own stays -/
theorem ap_str {ops : Array Oper} {rest : List Oper} {o : Oper} {a : Act} {Q : Exit → Act → World → Prop} (w : World) (hgd : o.guard = none) (sl x : Operand)
    (ho : o.op = .call { callee := .builtin .append, args := #[sl, x], argTypes := #[40, 40] })
    (B : Nat) (A : Option Addr) (n c : Nat) (ls : List (List UInt8)) (hs : a.eval sl = .slice A n c) (hown : OwnV w B 9 A n c (sc ls)) (t : ByteArray) (hx : a.eval x = .slice (some ⟨w.heap.size, 0, none⟩) 1 1)
    (hlen : n + 1 ≤ 1000000) (hB : B ≤ w.heap.size)
    (h : ∀ A' c' w', OwnV w' B 9 A' (n + 1) c' (sc ls ++ [.string t]) → Sm (Oth A) w w' → (∀ ad, A' = some ad → A = some ad ∨ w.heap.size ≤ ad.block) → wpList Tryz.prog ops Q rest (a.put o.dst (.slice A' (n + 1) c')) w') :
    wpList Tryz.prog ops Q (o :: rest) a (w.alloc (.cells #[.string t] 9)) := by
  have hmx : maxLen = 9223372036854775807 := by decide
  obtain ⟨i0, hi, hz0, hz1, hz2⟩ := info_parts info_str
  have hg1 : Gr w (w.alloc (.cells #[.string t] 9)) := (Gr.refl w).allocO _
  have hs1 : Sm (Oth A) w (w.alloc (.cells #[.string t] 9)) := hg1.sm _
  have hsz1 : (w.alloc (.cells #[.string t] 9)).heap.size = w.heap.size + 1 := by simp
  have hown1 := hown.gr hg1
  have hcell : (w.alloc (.cells #[.string t] 9)).cell? ⟨w.heap.size, 0, none⟩ = some (.string t) := by simp
  generalize w.alloc (.cells #[.string t] 9) = W at *
  have hcl : (sc ls).length = n := hown.len
  have h1v : ∀ u ∈ ([.string t] : List Value), u.oneCell' = true := fun u hu => by rw [List.mem_singleton] at hu; rw [hu]; rfl
  have hsrc : Src Tryz.prog i0.size 40 (.slice (some ⟨w.heap.size, 0, none⟩) 1 1) 1 [.string t] W := by
    rw [hz1]
    refine Src.ofSlice W Tryz.underlying40 ⟨w.heap.size, 0, none⟩ 1 1 [.string t] rfl (fun j u hj => ?_) h1v
    cases j with
    | zero =>
      obtain rfl : Value.string t = u := by simpa using hj
      exact hcell
    | succ j => simp at hj
  have grow : c < n + 1 → (Builtin.firstCells i0.size n (.slice A n c)).run Tryz.prog W.drew = .ok (sc ls).toArray W.drew → wpList Tryz.prog ops Q (o :: rest) a W := fun hroom hold => by
    have hrun : ∀ ty, (Builtin.append_ #[40, 40] ty #[.slice A n c, .slice (some ⟨w.heap.size, 0, none⟩) 1 1]).run Tryz.prog W = _ := fun ty =>
      run_append_grow_src W 40 40 ty 9 i0 _ Tryz.underlying40 hi hz0 A n c (sc ls) hold _ 1 [.string t] hsrc hroom (by omega) (by rw [hz2]; exact growslice_fits hroom (by omega))
    refine Lib.wpList_append_run _ hgd sl x _ _ ho _ _ hs hx _ _ (hrun _) ?_
    have hge := grownCap_ge W (n + 1) c 9
    have hcm := grownCap_le_maxLen W (n + 1) c 9 (by omega)
    refine h _ _ _ ⟨by rw [List.length_append, hcl]; simp, .inr ⟨W.heap.size, _, _, rfl, by omega, heap_alloc_new W.drew _, hge, hcm, ?_, ?_⟩⟩ (hs1.trans ((sm_drew _ W).trans (sm_alloc _ _ _))) (fun ad e => by cases e; exact Or.inr (by show w.heap.size ≤ W.heap.size; omega))
    · rw [Array.size_append, size_zeroCells, List.size_toArray, List.length_append, hcl]
      show n + 1 + _ * 1 = _
      omega
    · rw [Nat.mul_one, Array.toList_append, List.take_append_of_le_length (by simp; omega), List.take_of_length_le (by simp; omega)]
  rcases hown1.2 with ⟨he, rfl⟩ | ⟨g, cap, cur, he, hb, hh, hnc, hcm, hsz, hcx⟩
  · obtain ⟨rfl, _, rfl⟩ : A = none ∧ (0 : Nat) = 0 ∧ c = 0 := by cases he; exact ⟨rfl, rfl, rfl⟩
    refine grow (by decide) ?_
    rw [List.length_eq_zero_iff.1 hcl]
    exact run_firstCells_none W.drew _ 0 0 0
  · obtain ⟨rfl, _, rfl⟩ : A = some ⟨g, 0, none⟩ ∧ n = n ∧ c = cap := by cases he; exact ⟨rfl, rfl, rfl⟩
    rw [Nat.mul_one] at hsz hcx
    have hK : ¬ Oth (some ⟨g, 0, none⟩) g := fun h => h _ rfl rfl
    have hcl2 : cur.toList.length = c := by rw [Array.length_toList]; exact hsz
    by_cases hr : n + 1 ≤ c
    · refine wpList_append_room_src W hgd sl x 40 40 ho 9 i0 Tryz.underlying40 hi g 0 n c hs _ hx 1 [.string t] hsrc hr (fun j hj => ?_) (fun j hj => heap_free hh _) ?_
      · rw [List.length_singleton] at hj
        rw [hz1, heap_cell hh, Array.getElem?_eq_getElem (by omega)]
        rfl
      · have hO := own_shift (w := W) (v := .string t) (i := n) hb hh hr hcm (by rw [hsz, Nat.mul_one]) hcx (Nat.le_refl _) hcl
        rw [List.drop_of_length_le (by omega), List.take_of_length_le (by omega)] at hO
        rw [hz1, Nat.zero_add, Nat.mul_one]
        exact h _ _ _ hO (hs1.trans (sm_setCells hK _ _ _)) (fun ad e => Or.inl e)
    · refine grow (by omega) ?_
      rw [hz1]
      refine run_firstCells_some W.drew 1 n ⟨g, 0, none⟩ n c (sc ls) (by omega) (fun j v hj => ?_)
      have hadd : (⟨g, 0, none⟩ : Addr).add j = ⟨g, j, none⟩ := by unfold Addr.add; split <;> simp_all
      rw [hadd]
      show W.cell? _ = _
      rw [heap_cell hh, ← Array.getElem?_toList]
      rw [← hcx, List.getElem?_take] at hj
      split at hj
      · exact hj
      · cases hj
end Go.Proofs.YtleeklcpbflfhaaGreatDoor
namespace Go.Proofs.YtleeklcpbflfhaaGreatDoor
namespace Rm

theorem fm_iff (r : Ru) : fm r = true ↔ (1 ≤ r.freq ∧ r.freq ≤ 4 ∧ 1 ≤ r.ivl ∧ r.ivl ≤ 1000 ∧ 0 ≤ r.cnt ∧ r.cnt ≤ 1000 ∧ 0 ≤ r.st ∧ r.st ≤ 6) ∧ fmU r = true ∧ (∀ i, i < 8 → fine i (r.ls i) = true) ∧ fineD r.day = true ∧ fmX r = true := by
  have h1 : fm1 r = true ↔ (1 ≤ r.freq ∧ r.freq ≤ 4 ∧ 1 ≤ r.ivl ∧ r.ivl ≤ 1000 ∧ 0 ≤ r.cnt ∧ r.cnt ≤ 1000 ∧ 0 ≤ r.st ∧ r.st ≤ 6) := by
    unfold fm1
    simp only [Bool.and_eq_true, decide_eq_true_eq, and_assoc]
  have h2 : fmL r = true ↔ (∀ i, i < 8 → fine i (r.ls i) = true) ∧ fineD r.day = true := by
    unfold fmL
    simp only [Bool.and_eq_true]
    constructor
    · rintro ⟨⟨⟨⟨⟨⟨⟨⟨l0, l1⟩, l2⟩, lD⟩, l3⟩, l4⟩, l5⟩, l6⟩, l7⟩
      refine ⟨fun i hi => ?_, lD⟩
      rcases (show i = 0 ∨ i = 1 ∨ i = 2 ∨ i = 3 ∨ i = 4 ∨ i = 5 ∨ i = 6 ∨ i = 7 by omega) with rfl | rfl | rfl | rfl | rfl | rfl | rfl | rfl
      · exact l0
      · exact l1
      · exact l2
      · exact l3
      · exact l4
      · exact l5
      · exact l6
      · exact l7
    · rintro ⟨h, lD⟩
      exact ⟨⟨⟨⟨⟨⟨⟨⟨h 0 (by decide), h 1 (by decide)⟩, h 2 (by decide)⟩, lD⟩, h 3 (by decide)⟩, h 4 (by decide)⟩, h 5 (by decide)⟩, h 6 (by decide)⟩, h 7 (by decide)⟩
  unfold fm
  rw [Bool.and_eq_true, Bool.and_eq_true, Bool.and_eq_true, h1, h2]
  constructor
  · rintro ⟨⟨⟨a, b⟩, c, d⟩, e⟩
    exact ⟨a, b, c, d, e⟩
  · rintro ⟨a, b, c, d, e⟩
    exact ⟨⟨⟨a, b⟩, c, d⟩, e⟩
/- how many elements the lists but Position hold -/
def oth (V : Rv) : Nat → Nat
  | 0 => V.day.n
  | k + 1 => oth V k + if k < 7 then (V.sl k).n else 0
theorem oth_le (V : Rv) (hd : V.day.n ≤ 40) : ∀ k, k ≤ 8 → (∀ i, i < k → (V.sl i).n ≤ 40) → oth V k ≤ 40 * (k + 1)
  | 0, _, _ => by show V.day.n ≤ _; omega
  | k + 1, h, hn => by
    have h1 := oth_le V hd k (by omega) (fun i hi => hn i (by omega))
    have h2 := hn k (by omega)
    rw [oth]
    split <;> omega
theorem isE_dec {α : Type} {l : List α} {n : Nat} (h : l.length = n) : l.isEmpty = decide (n = 0) := by
  cases l with
  | nil => simp at h; simp [← h]
  | cons a l => simp at h; simp; omega
theorem fmX_iff (V : Rv) (hL : ∀ i, i < 8 → (V.r.ls i).length = (V.sl i).n) (hD : V.r.day.length = V.day.n) :
    fmX V.r = true ↔ (V.r.freq = 4 ∨ V.yday.n + V.week.n = 0) ∧ (V.r.freq ≠ 2 ∨ V.mday.n = 0) ∧ (V.pos.n = 0 ∨ oth V 8 ≠ 0) ∧ ((∀ p ∈ V.r.day, p.1 = 0) ∨ V.r.freq = 3 ∨ (V.r.freq = 4 ∧ V.week.n = 0)) := by
  have ho : oth V 8 = V.day.n + V.sec.n + V.min.n + V.hour.n + V.mday.n + V.yday.n + V.week.n + V.month.n := by
    simp [oth, Rv.sl]
  have e0 : V.r.sec.isEmpty = decide (V.sec.n = 0) := isE_dec (hL 0 (by decide))
  have e1 : V.r.min.isEmpty = decide (V.min.n = 0) := isE_dec (hL 1 (by decide))
  have e2 : V.r.hour.isEmpty = decide (V.hour.n = 0) := isE_dec (hL 2 (by decide))
  have e3 : V.r.mday.isEmpty = decide (V.mday.n = 0) := isE_dec (hL 3 (by decide))
  have e4 : V.r.yday.isEmpty = decide (V.yday.n = 0) := isE_dec (hL 4 (by decide))
  have e5 : V.r.week.isEmpty = decide (V.week.n = 0) := isE_dec (hL 5 (by decide))
  have e6 : V.r.month.isEmpty = decide (V.month.n = 0) := isE_dec (hL 6 (by decide))
  have e7 : V.r.pos.isEmpty = decide (V.pos.n = 0) := isE_dec (hL 7 (by decide))
  have e8 : V.r.day.isEmpty = decide (V.day.n = 0) := isE_dec hD
  have e9 : V.r.day.all (fun p => p.1 == 0) = true ↔ ∀ p ∈ V.r.day, p.1 = 0 := by
    rw [List.all_eq_true]
    exact ⟨fun h p hp => by simpa using h p hp, fun h p hp => by simpa using h p hp⟩
  rw [ho, ← e9]
  unfold fmX
  rw [e0, e1, e2, e3, e4, e5, e6, e7, e8]
  generalize V.r.day.all (fun p => p.1 == 0) = q
  simp only [Bool.and_eq_true, Bool.or_eq_true, beq_iff_eq, bne_iff_ne, ne_eq, decide_eq_true_eq, Bool.not_eq_true', Bool.and_eq_false_iff, decide_eq_false_iff_not]
  cases q
  · simp only [Bool.false_eq_true, false_or]
    omega
  · simp only [true_or, and_true]
    omega
end Rm
end Go.Proofs.YtleeklcpbflfhaaGreatDoor
namespace Go.Proofs.YtleeklcpbflfhaaGreatDoor
open Go.RowKit

namespace Rm
theorem lrF_len {ok : Int → Bool} : ∀ (ts : List (List UInt8)) (a xs : List Int), ts.foldl (stepN ok) (some a) = some xs → xs.length ≤ a.length + ts.length
  | [], a, xs, h => by cases h; simp
  | t :: ts, a, xs, h => by
    rw [List.foldl_cons] at h
    cases hs : stepN ok (some a) t with
    | none => rw [hs, stepN_fold_none] at h; cases h
    | some b =>
      rw [hs] at h
      have ih := lrF_len ts b xs h
      have hb : b.length ≤ a.length + 1 := by
        unfold stepN at hs
        split at hs
        · rename_i a1 n e1 e2
          cases e1
          split at hs
          · cases hs; exact ins_len2 _ _
          · cases hs
        · cases hs
      rw [List.length_cons]; omega
theorem lr_len {ok : Int → Bool} {l : List UInt8} {xs : List Int} (h : lr ok l = some xs) : xs.length ≤ l.length + 1 := by
  have h1 := lrF_len (cutB 44 l) [] xs h
  have h2 := cutB_count 44 l
  simp at h1
  omega
theorem ldrF_len : ∀ (ts : List (List UInt8)) (a xs : List (Int × Int)), ts.foldl stepD (some a) = some xs → xs.length ≤ a.length + ts.length
  | [], a, xs, h => by cases h; simp
  | t :: ts, a, xs, h => by
    rw [List.foldl_cons] at h
    cases hs : stepD (some a) t with
    | none => rw [hs, stepD_fold_none] at h; cases h
    | some b =>
      rw [hs] at h
      have ih := ldrF_len ts b xs h
      have hb : b.length ≤ a.length + 1 := by
        unfold stepD at hs
        split at hs
        · rename_i a1 n e1 e2
          cases e1
          cases hs; exact insD_len2 _ _
        · cases hs
      rw [List.length_cons]; omega
theorem ldr_len {l : List UInt8} {xs : List (Int × Int)} (h : ldr l = some xs) : xs.length ≤ l.length + 1 := by
  have h1 := ldrF_len (cutB 44 l) [] xs h
  have h2 := cutB_count 44 l
  simp at h1
  omega
theorem utR_zone {l : List UInt8} {x : Int × Int × List UInt8} (h : utR l = some x) : x.2.2 = [] := by
  unfold utR Va.rd at h
  rw [if_neg (fun h => h.1 rfl)] at h
  split at h
  · split at h
    · cases h; rfl
    · cases h
  · rw [if_neg (fun h => h rfl)] at h
    split at h
    · split at h
      · cases h; rfl
      · cases h
    · split at h
      · cases h; rfl
      · cases h
structure Bnd (r : Ru) : Prop where
  l : ∀ i, i < 8 → (r.ls i).length ≤ 100001
  d : r.day.length ≤ 100001
  z : r.uz = []
theorem Bnd.zero : Bnd r0 := ⟨fun i hi => by
  rcases (show i = 0 ∨ i = 1 ∨ i = 2 ∨ i = 3 ∨ i = 4 ∨ i = 5 ∨ i = 6 ∨ i = 7 by omega) with rfl | rfl | rfl | rfl | rfl | rfl | rfl | rfl <;> exact Nat.zero_le _, Nat.zero_le _, rfl⟩
theorem run_bnd {r r' : Ru} {nm tx : List UInt8} (h : runP (some r) (nm, tx) = some r') (hb : Bnd r) (hl : tx.length ≤ 100000) : Bnd r' := by
  have b0 := hb.l 0 (by decide)
  have b1 := hb.l 1 (by decide)
  have b2 := hb.l 2 (by decide)
  have b3 := hb.l 3 (by decide)
  have b4 := hb.l 4 (by decide)
  have b5 := hb.l 5 (by decide)
  have b6 := hb.l 6 (by decide)
  have b7 := hb.l 7 (by decide)
  have bd := hb.d
  have bz := hb.z
  have hL : ∀ {ok xs}, lr ok tx = some xs → xs.length ≤ 100001 := fun h => by have := lr_len h; omega
  replace h : (setP r nm tx).bind id = some r' := h
  obtain ⟨o, ho, h2⟩ := Option.bind_eq_some_iff.1 h
  obtain rfl : o = some r' := h2
  clear h
  unfold setP at ho
  by_cases h : nm = nFREQ
  · rw [if_pos h] at ho
    clear h
    simp only [Option.some.injEq] at ho
    obtain ⟨x, hx, rfl⟩ := Option.map_eq_some_iff.1 ho
    clear ho
    refine ⟨fun i hi => ?_, ?_, ?_⟩
    · rcases (show i = 0 ∨ i = 1 ∨ i = 2 ∨ i = 3 ∨ i = 4 ∨ i = 5 ∨ i = 6 ∨ i = 7 by omega) with rfl | rfl | rfl | rfl | rfl | rfl | rfl | rfl <;> first | exact b0 | exact b1 | exact b2 | exact b3 | exact b4 | exact b5 | exact b6 | exact b7 | exact hL hx
    · first | exact bd | (have := ldr_len hx; show x.length ≤ _; omega)
    · first | exact bz | exact utR_zone hx
  rw [if_neg h] at ho
  clear h
  by_cases h : nm = nINTERVAL
  · rw [if_pos h] at ho
    clear h
    simp only [Option.some.injEq] at ho
    obtain ⟨x, hx, rfl⟩ := Option.map_eq_some_iff.1 ho
    clear ho
    refine ⟨fun i hi => ?_, ?_, ?_⟩
    · rcases (show i = 0 ∨ i = 1 ∨ i = 2 ∨ i = 3 ∨ i = 4 ∨ i = 5 ∨ i = 6 ∨ i = 7 by omega) with rfl | rfl | rfl | rfl | rfl | rfl | rfl | rfl <;> first | exact b0 | exact b1 | exact b2 | exact b3 | exact b4 | exact b5 | exact b6 | exact b7 | exact hL hx
    · first | exact bd | (have := ldr_len hx; show x.length ≤ _; omega)
    · first | exact bz | exact utR_zone hx
  rw [if_neg h] at ho
  clear h
  by_cases h : nm = nCOUNT
  · rw [if_pos h] at ho
    clear h
    simp only [Option.some.injEq] at ho
    obtain ⟨x, hx, rfl⟩ := Option.map_eq_some_iff.1 ho
    clear ho
    refine ⟨fun i hi => ?_, ?_, ?_⟩
    · rcases (show i = 0 ∨ i = 1 ∨ i = 2 ∨ i = 3 ∨ i = 4 ∨ i = 5 ∨ i = 6 ∨ i = 7 by omega) with rfl | rfl | rfl | rfl | rfl | rfl | rfl | rfl <;> first | exact b0 | exact b1 | exact b2 | exact b3 | exact b4 | exact b5 | exact b6 | exact b7 | exact hL hx
    · first | exact bd | (have := ldr_len hx; show x.length ≤ _; omega)
    · first | exact bz | exact utR_zone hx
  rw [if_neg h] at ho
  clear h
  by_cases h : nm = nUNTIL
  · rw [if_pos h] at ho
    clear h
    simp only [Option.some.injEq] at ho
    obtain ⟨x, hx, rfl⟩ := Option.map_eq_some_iff.1 ho
    clear ho
    refine ⟨fun i hi => ?_, ?_, ?_⟩
    · rcases (show i = 0 ∨ i = 1 ∨ i = 2 ∨ i = 3 ∨ i = 4 ∨ i = 5 ∨ i = 6 ∨ i = 7 by omega) with rfl | rfl | rfl | rfl | rfl | rfl | rfl | rfl <;> first | exact b0 | exact b1 | exact b2 | exact b3 | exact b4 | exact b5 | exact b6 | exact b7 | exact hL hx
    · first | exact bd | (have := ldr_len hx; show x.length ≤ _; omega)
    · first | exact bz | exact utR_zone hx
  rw [if_neg h] at ho
  clear h
  by_cases h : nm = nBYSECOND
  · rw [if_pos h] at ho
    clear h
    simp only [Option.some.injEq] at ho
    obtain ⟨x, hx, rfl⟩ := Option.map_eq_some_iff.1 ho
    clear ho
    refine ⟨fun i hi => ?_, ?_, ?_⟩
    · rcases (show i = 0 ∨ i = 1 ∨ i = 2 ∨ i = 3 ∨ i = 4 ∨ i = 5 ∨ i = 6 ∨ i = 7 by omega) with rfl | rfl | rfl | rfl | rfl | rfl | rfl | rfl <;> first | exact b0 | exact b1 | exact b2 | exact b3 | exact b4 | exact b5 | exact b6 | exact b7 | exact hL hx
    · first | exact bd | (have := ldr_len hx; show x.length ≤ _; omega)
    · first | exact bz | exact utR_zone hx
  rw [if_neg h] at ho
  clear h
  by_cases h : nm = nBYMINUTE
  · rw [if_pos h] at ho
    clear h
    simp only [Option.some.injEq] at ho
    obtain ⟨x, hx, rfl⟩ := Option.map_eq_some_iff.1 ho
    clear ho
    refine ⟨fun i hi => ?_, ?_, ?_⟩
    · rcases (show i = 0 ∨ i = 1 ∨ i = 2 ∨ i = 3 ∨ i = 4 ∨ i = 5 ∨ i = 6 ∨ i = 7 by omega) with rfl | rfl | rfl | rfl | rfl | rfl | rfl | rfl <;> first | exact b0 | exact b1 | exact b2 | exact b3 | exact b4 | exact b5 | exact b6 | exact b7 | exact hL hx
    · first | exact bd | (have := ldr_len hx; show x.length ≤ _; omega)
    · first | exact bz | exact utR_zone hx
  rw [if_neg h] at ho
  clear h
  by_cases h : nm = nBYHOUR
  · rw [if_pos h] at ho
    clear h
    simp only [Option.some.injEq] at ho
    obtain ⟨x, hx, rfl⟩ := Option.map_eq_some_iff.1 ho
    clear ho
    refine ⟨fun i hi => ?_, ?_, ?_⟩
    · rcases (show i = 0 ∨ i = 1 ∨ i = 2 ∨ i = 3 ∨ i = 4 ∨ i = 5 ∨ i = 6 ∨ i = 7 by omega) with rfl | rfl | rfl | rfl | rfl | rfl | rfl | rfl <;> first | exact b0 | exact b1 | exact b2 | exact b3 | exact b4 | exact b5 | exact b6 | exact b7 | exact hL hx
    · first | exact bd | (have := ldr_len hx; show x.length ≤ _; omega)
    · first | exact bz | exact utR_zone hx
  rw [if_neg h] at ho
  clear h
  by_cases h : nm = nBYDAY
  · rw [if_pos h] at ho
    clear h
    simp only [Option.some.injEq] at ho
    obtain ⟨x, hx, rfl⟩ := Option.map_eq_some_iff.1 ho
    clear ho
    refine ⟨fun i hi => ?_, ?_, ?_⟩
    · rcases (show i = 0 ∨ i = 1 ∨ i = 2 ∨ i = 3 ∨ i = 4 ∨ i = 5 ∨ i = 6 ∨ i = 7 by omega) with rfl | rfl | rfl | rfl | rfl | rfl | rfl | rfl <;> first | exact b0 | exact b1 | exact b2 | exact b3 | exact b4 | exact b5 | exact b6 | exact b7 | exact hL hx
    · first | exact bd | (have := ldr_len hx; show x.length ≤ _; omega)
    · first | exact bz | exact utR_zone hx
  rw [if_neg h] at ho
  clear h
  by_cases h : nm = nBYMONTHDAY
  · rw [if_pos h] at ho
    clear h
    simp only [Option.some.injEq] at ho
    obtain ⟨x, hx, rfl⟩ := Option.map_eq_some_iff.1 ho
    clear ho
    refine ⟨fun i hi => ?_, ?_, ?_⟩
    · rcases (show i = 0 ∨ i = 1 ∨ i = 2 ∨ i = 3 ∨ i = 4 ∨ i = 5 ∨ i = 6 ∨ i = 7 by omega) with rfl | rfl | rfl | rfl | rfl | rfl | rfl | rfl <;> first | exact b0 | exact b1 | exact b2 | exact b3 | exact b4 | exact b5 | exact b6 | exact b7 | exact hL hx
    · first | exact bd | (have := ldr_len hx; show x.length ≤ _; omega)
    · first | exact bz | exact utR_zone hx
  rw [if_neg h] at ho
  clear h
  by_cases h : nm = nBYYEARDAY
  · rw [if_pos h] at ho
    clear h
    simp only [Option.some.injEq] at ho
    obtain ⟨x, hx, rfl⟩ := Option.map_eq_some_iff.1 ho
    clear ho
    refine ⟨fun i hi => ?_, ?_, ?_⟩
    · rcases (show i = 0 ∨ i = 1 ∨ i = 2 ∨ i = 3 ∨ i = 4 ∨ i = 5 ∨ i = 6 ∨ i = 7 by omega) with rfl | rfl | rfl | rfl | rfl | rfl | rfl | rfl <;> first | exact b0 | exact b1 | exact b2 | exact b3 | exact b4 | exact b5 | exact b6 | exact b7 | exact hL hx
    · first | exact bd | (have := ldr_len hx; show x.length ≤ _; omega)
    · first | exact bz | exact utR_zone hx
  rw [if_neg h] at ho
  clear h
  by_cases h : nm = nBYWEEKNO
  · rw [if_pos h] at ho
    clear h
    simp only [Option.some.injEq] at ho
    obtain ⟨x, hx, rfl⟩ := Option.map_eq_some_iff.1 ho
    clear ho
    refine ⟨fun i hi => ?_, ?_, ?_⟩
    · rcases (show i = 0 ∨ i = 1 ∨ i = 2 ∨ i = 3 ∨ i = 4 ∨ i = 5 ∨ i = 6 ∨ i = 7 by omega) with rfl | rfl | rfl | rfl | rfl | rfl | rfl | rfl <;> first | exact b0 | exact b1 | exact b2 | exact b3 | exact b4 | exact b5 | exact b6 | exact b7 | exact hL hx
    · first | exact bd | (have := ldr_len hx; show x.length ≤ _; omega)
    · first | exact bz | exact utR_zone hx
  rw [if_neg h] at ho
  clear h
  by_cases h : nm = nBYMONTH
  · rw [if_pos h] at ho
    clear h
    simp only [Option.some.injEq] at ho
    obtain ⟨x, hx, rfl⟩ := Option.map_eq_some_iff.1 ho
    clear ho
    refine ⟨fun i hi => ?_, ?_, ?_⟩
    · rcases (show i = 0 ∨ i = 1 ∨ i = 2 ∨ i = 3 ∨ i = 4 ∨ i = 5 ∨ i = 6 ∨ i = 7 by omega) with rfl | rfl | rfl | rfl | rfl | rfl | rfl | rfl <;> first | exact b0 | exact b1 | exact b2 | exact b3 | exact b4 | exact b5 | exact b6 | exact b7 | exact hL hx
    · first | exact bd | (have := ldr_len hx; show x.length ≤ _; omega)
    · first | exact bz | exact utR_zone hx
  rw [if_neg h] at ho
  clear h
  by_cases h : nm = nBYSETPOS
  · rw [if_pos h] at ho
    clear h
    simp only [Option.some.injEq] at ho
    obtain ⟨x, hx, rfl⟩ := Option.map_eq_some_iff.1 ho
    clear ho
    refine ⟨fun i hi => ?_, ?_, ?_⟩
    · rcases (show i = 0 ∨ i = 1 ∨ i = 2 ∨ i = 3 ∨ i = 4 ∨ i = 5 ∨ i = 6 ∨ i = 7 by omega) with rfl | rfl | rfl | rfl | rfl | rfl | rfl | rfl <;> first | exact b0 | exact b1 | exact b2 | exact b3 | exact b4 | exact b5 | exact b6 | exact b7 | exact hL hx
    · first | exact bd | (have := ldr_len hx; show x.length ≤ _; omega)
    · first | exact bz | exact utR_zone hx
  rw [if_neg h] at ho
  clear h
  by_cases h : nm = nWKST
  · rw [if_pos h] at ho
    clear h
    simp only [Option.some.injEq] at ho
    by_cases hw : 0 ≤ which tx
    · rw [if_pos hw] at ho
      simp only [Option.some.injEq] at ho
      subst ho
      exact ⟨hb.l, bd, bz⟩
    · rw [if_neg hw] at ho
      cases ho
  rw [if_neg h] at ho
  clear h
  cases ho
theorem fm_small {r : Ru} (h : fm r = true) : (∀ i, i < 8 → (r.ls i).length ≤ 40) ∧ r.day.length ≤ 40 := by
  obtain ⟨_, _, h1, h2, _⟩ := (fm_iff r).1 h
  exact ⟨fun i hi => (fine_iff.1 (h1 i hi)).1, (fineD_iff.1 h2).1⟩
theorem rdR_small (l : List UInt8) : (∀ i, i < 8 → ((rdR l).1.ls i).length ≤ 40) ∧ (rdR l).1.day.length ≤ 40 := by
  have hz : (∀ i, i < 8 → (rz.ls i).length ≤ 40) ∧ rz.day.length ≤ 40 := ⟨fun i hi => by
    rcases (show i = 0 ∨ i = 1 ∨ i = 2 ∨ i = 3 ∨ i = 4 ∨ i = 5 ∨ i = 6 ∨ i = 7 by omega) with rfl | rfl | rfl | rfl | rfl | rfl | rfl | rfl <;> exact Nat.zero_le _, Nat.zero_le _⟩
  unfold rdR fin
  split
  · exact hz
  · split
    · exact hz
    · split
      · exact hz
      · split
        · rename_i h
          exact fm_small h
        · exact hz
end Rm
/- a rule that is read, where its box and its lists stay -/
theorem Nums.smK {K : Nat → Prop} {w w' : World} {A : Option Addr} {n : Nat} {xs : List Int} (h : Nums w w.heap.size A n xs) (ho : 0 < n → ∀ ad, A = some ad → K ad.block) (hs : Sm K w w') : Nums w' w'.heap.size A n xs :=
  ⟨h.1, fun hn => by
    obtain ⟨ad, e, hb, hc⟩ := h.2 hn
    refine ⟨ad, e, Nat.lt_of_lt_of_le hb hs.size, fun j u hu => hs.cell ?_ (hc j u hu)⟩
    show K (ad.add j).block
    rw [add_block]
    exact ho hn ad e⟩
theorem Days.smK {K : Nat → Prop} {w w' : World} {A : Option Addr} {n : Nat} {xs : List (Int × Int)} (h : Days w w.heap.size A n xs) (ho : 0 < n → ∀ ad, A = some ad → K ad.block) (hs : Sm K w w') : Days w' w'.heap.size A n xs :=
  ⟨h.1, fun hn => by
    obtain ⟨ad, e, hb, hc⟩ := h.2 hn
    have hz : ∀ j, K (ad.add j).block := fun j => by rw [add_block]; exact ho hn ad e
    exact ⟨ad, e, Nat.lt_of_lt_of_le hb hs.size, fun j u hu => ⟨hs.cell (hz _) (hc j u hu).1, hs.cell (a := ⟨(ad.add (j * 2)).block, (ad.add (j * 2)).off + 1, none⟩) (hz _) (hc j u hu).2⟩⟩⟩
theorem RBx.smK {K : Nat → Prop} {w w' : World} {b : Nat} {V : Rm.Rv} (h : RBx w b V) (hb : K b) (hs : Sm K w w') : RBx w' b V := by
  obtain ⟨e0, e1, e2, e3, e4, e5, e6, e7, e8, e9, e10, e11, e12, e13, e14, e15, e16⟩ := h
  constructor <;> exact hs.cell hb (by assumption)
/- the lists of V are no block of A's -/
def Sep (A : Option Addr) (V : Rm.Rv) : Prop :=
  (∀ i, i < 8 → 0 < (V.sl i).n → ∀ ad, (V.sl i).A = some ad → Oth A ad.block) ∧ (0 < V.day.n → ∀ ad, V.day.A = some ad → Oth A ad.block)
theorem RdM.smO {A : Option Addr} {w w' : World} {B b : Nat} {V : Rm.Rv} (h : RdM w B b V) (hb : Oth A b) (hs : Sm (Oth A) w w') (hS : Sep A V) : RdM w' B b V :=
  ⟨h.box.smK hb hs, fun o => by rw [hs.frozen (a := ⟨b, o, none⟩) (show b < _ from World.block_lt_of_cell? _ _ h.box.c0) hb]; exact h.free o,
    ⟨h.m.z, fun i hi => (h.m.l i hi).smK (hS.1 i hi) hs, Days.smK h.m.d hS.2 hs⟩, h.off, h.offd⟩
theorem Sep.grow {A A' : Option Addr} {w : World} {B b : Nat} {V : Rm.Rv} (hS : Sep A V) (h : RdM w B b V) (hA : ∀ ad, A' = some ad → A = some ad ∨ w.heap.size ≤ ad.block) : Sep A' V := by
  refine ⟨fun i hi hn ad e ad' e' => ?_, fun hn ad e ad' e' => ?_⟩
  · rcases hA ad' e' with h1 | h1
    · exact hS.1 i hi hn ad e ad' h1
    · obtain ⟨ad2, e2, hb2, _⟩ := (h.m.l i hi).2 hn
      rw [e] at e2
      cases e2
      omega
  · rcases hA ad' e' with h1 | h1
    · exact hS.2 hn ad e ad' h1
    · obtain ⟨ad2, e2, hb2, _⟩ := h.m.d.2 hn
      rw [e] at e2
      cases e2
      omega
theorem Sep.frs {A : Option Addr} {V V' : Rm.Rv} {h : Nat} (hS : Sep A V) (hF : Frs h V V') (hA : ∀ ad, A = some ad → ad.block < h) : Sep A V' := by
  refine ⟨fun i hi hn ad e => ?_, fun hn ad e => ?_⟩
  · rcases hF.1 i hi with h1 | h1
    · rw [h1] at hn e
      exact hS.1 i hi hn ad e
    · exact fun ad' e' => by have := h1 hn ad e; have := hA ad' e'; omega
  · rcases hF.2 with h1 | h1
    · rw [h1] at hn e
      exact hS.2 hn ad e
    · exact fun ad' e' => by have := h1 hn ad e; have := hA ad' e'; omega
end Go.Proofs.YtleeklcpbflfhaaGreatDoor
