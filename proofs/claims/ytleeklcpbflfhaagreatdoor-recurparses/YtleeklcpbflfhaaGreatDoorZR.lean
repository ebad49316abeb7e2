/- The texts RcUns, RcRd2, RcUnt, RcRd3, one behind the other. -/
import Derived.Test.YtleeklcpbflfhaaGreatDoorZH
import Derived.Test.YtleeklcpbflfhaaGreatDoorZVaPd
import Derived.Test.YtleeklcpbflfhaaGreatDoorZVaTime
namespace Go.Proofs.YtleeklcpbflfhaaGreatDoor
open Go.RowKit Go.Shelf

namespace Rm
theorem pre_45 (l : List UInt8) : Lib.hasPrefix l (ByteArray.mk #[45]).data.toList = decide (l.head? = some 45) := by
  cases l with
  | nil => rfl
  | cons a t => 
    simp only [Lib.hasPrefix, List.isPrefixOf, Bool.and_true, List.head?_cons, Option.some.injEq]
    exact decide_eq_decide.2 ⟨fun h => h.symm, fun h => h.symm⟩
theorem num_minus {l : List UInt8} {k : Nat} (h : l.head? = some 45) : Va.num l k = false := by
  cases l with
  | nil => cases h
  | cons a t =>
    cases h
    cases hn : Va.num (45 :: t) k
    · rfl
    · have := (Va.num_iff.1 hn).2.2
      rw [List.all_cons] at this
      exact absurd this (by simp [Txt.isD])
theorem num_long {l : List UInt8} (h : 4 < l.length) : Va.num l 4 = false := by
  cases hn : Va.num l 4
  · rfl
  · have := (Va.num_iff.1 hn).2.1
    omega
theorem num_94 {l : List UInt8} (h : l.length ≤ 4) : Va.num l 9 = Va.num l 4 := by
  unfold Va.num
  rw [decide_eq_true h, decide_eq_true (show l.length ≤ 9 by omega)]
end Rm
theorem pre45_any (s : ByteArray) (w : World) :
    Calls Tryz.prog 132 #[.string s, .string ⟨#[45]⟩] w fun e w' => e = .returned (.bool (decide (s.data.toList.head? = some 45))) ∧ w = w' := by
  refine (Tryz.strings_HasPrefix s ⟨#[45]⟩ w).mono ?_
  rintro e w' ⟨rfl, rfl⟩
  rw [← Rm.pre_45]
  exact ⟨rfl, rfl⟩
set_option maxHeartbeats 1000000 in
theorem unsigned_any (s : ByteArray) (w : World) :
    Calls Tryz.prog 100 #[.string s] w fun e w' => ∃ v, e = .returned (.tuple #[.int .i64 v, .bool (Va.num s.data.toList 4)]) ∧ (Va.num s.data.toList 4 = true → v = (Txt.val s.data.toList 0 : Int)) ∧ w = w' := by
  have cP := fun w => pre45_any s w
  have hsz := Lib.size_eq s
  by_cases hm : s.data.toList.head? = some 45
  · have hN := Rm.num_minus (k := 4) hm
    rw [decide_eq_true hm] at cP
    rw [hN]
    clear hN hm hsz
    go_enter Tryz.func100, Tryz.ntmps100
    go_wp2_with (go_at_call 132; refine (cP _).mono ?_; rintro e w' ⟨rfl, rfl⟩)
    go_ret2
    exact ⟨0, rfl, fun h => (by cases h), rfl⟩
  · rw [decide_eq_false hm] at cP
    by_cases hl : 4 < s.size
    · have hN := Rm.num_long (l := s.data.toList) (by omega)
      rw [hN]
      have hli : (4 : Int) < (s.size : Int) := by omega
      clear hN hm hsz
      go_enter Tryz.func100, Tryz.ntmps100
      go_wp2_with (go_at_call 132; refine (cP _).mono ?_; rintro e w' ⟨rfl, rfl⟩)
      go_ret2
      exact ⟨0, rfl, fun h => (by cases h), rfl⟩
    · have hli : ¬ (4 : Int) < (s.size : Int) := by omega
      have h9 := Rm.num_94 (l := s.data.toList) (by omega)
      have hng : Va.neg s.data.toList = false := by unfold Va.neg; rw [beq_eq_false_iff_ne]; exact hm
      have cN := fun w => number_parse s w
      have e1 : Va.plB s.data.toList = Va.num s.data.toList 4 := by unfold Va.plB; rw [Va.bod_no hng, h9]
      have e2 : Va.plV s.data.toList = (Txt.val s.data.toList 0 : Int) := by unfold Va.plV; rw [Va.bod_no hng, hng]; rfl
      rw [e1, e2] at cN
      clear h9 hng hm hsz e1 e2
      generalize (Txt.val s.data.toList 0 : Int) = v at *
      generalize Va.num s.data.toList 4 = b at *
      rcases b
      · rw [if_neg (by decide)] at cN
        dsimp only [Va.opV] at cN
        go_enter Tryz.func100, Tryz.ntmps100
        go_wp2_with (first | (go_at_call 132; refine (cP _).mono ?_; rintro e w' ⟨rfl, rfl⟩) | (go_at_call 133; refine (cN _).mono ?_; rintro e w' ⟨rfl, rfl⟩))
        go_ret2
        exact ⟨0, rfl, fun h => (by cases h), rfl⟩
      · rw [if_pos rfl] at cN
        dsimp only [Va.opV] at cN
        go_enter Tryz.func100, Tryz.ntmps100
        go_wp2_with (first | (go_at_call 132; refine (cP _).mono ?_; rintro e w' ⟨rfl, rfl⟩) | (go_at_call 133; refine (cN _).mono ?_; rintro e w' ⟨rfl, rfl⟩))
        go_ret2
        exact ⟨v, rfl, fun _ => rfl, rfl⟩
end Go.Proofs.YtleeklcpbflfhaaGreatDoor
namespace Go.Proofs.YtleeklcpbflfhaaGreatDoor
open Go.RowKit

set_option maxHeartbeats 1000000 in
theorem amount_any (s : ByteArray) (w : World) :
    Calls Tryz.prog 71 #[.string s] w fun e w' => ∃ v q, e = .returned (.tuple #[.int .i64 v, .bool q]) ∧ ((q = true ∧ Rm.cntR s.data.toList = some v) ∨ (q = false ∧ Rm.cntR s.data.toList = none)) ∧ w = w' := by
  have cU := fun w => unsigned_any s w
  have HC := Lib.hid (show Rm.cntR s.data.toList = if Va.num s.data.toList 4 = true ∧ 1 ≤ Txt.val s.data.toList 0 ∧ Txt.val s.data.toList 0 ≤ 1000 then some (Txt.val s.data.toList 0 : Int) else none from rfl)
  generalize Rm.cntR s.data.toList = N at *
  generalize Va.num s.data.toList 4 = b at *
  generalize Txt.val s.data.toList 0 = n at *
  rcases b
  · have HN : Hid (N = none) := Lib.hid (by rw [HC.out, if_neg (fun h => by cases h.1)])
    go_enter Tryz.func71, Tryz.ntmps71
    go_wp2_with (go_at_call 100; refine (cU _).mono ?_; rintro e w' ⟨v, rfl, hv, rfl⟩)
    go_ret2
    exact ⟨_, _, rfl, Or.inr ⟨rfl, HN.out⟩, rfl⟩
  · have HN : Hid (N = if 1 ≤ n ∧ n ≤ 1000 then some (n : Int) else none) := Lib.hid (by rw [HC.out]; simp only [true_and])
    go_enter Tryz.func71, Tryz.ntmps71
    go_wp2_with (first | (go_at_call 100; refine (cU _).mono ?_; rintro e w' ⟨v, rfl, hv, rfl⟩; obtain rfl := hv rfl) | (go_at_call 26; refine (within_any _ _ _ _).mono ?_; rintro e w' ⟨rfl, rfl⟩))
    go_ret2
    refine ⟨(n : Int), _, rfl, ?_, rfl⟩
    by_cases h : 1 ≤ n ∧ n ≤ 1000
    · exact Or.inl ⟨by simp only [Bool.and_eq_true, decide_eq_true_eq]; omega, by rw [HN.out, if_pos h]⟩
    · refine Or.inr ⟨?_, by rw [HN.out, if_neg h]⟩
      cases hx : (decide ((1 : Int) ≤ (n : Int)) && decide ((n : Int) ≤ 1000))
      · rfl
      · rw [Bool.and_eq_true, decide_eq_true_eq, decide_eq_true_eq] at hx
        exact absurd (by omega) h
set_option maxRecDepth 100000 in
set_option maxHeartbeats 4000000 in
theorem rd_ivl (tx : List UInt8) : RdOk (Rm.nINTERVAL, tx) := by
  intro w B b V hT _ hM
  have hs0 : (Rm.nINTERVAL == [70, 82, 69, 81]) = false := by decide
  have hs1 : (Rm.nINTERVAL == [73, 78, 84, 69, 82, 86, 65, 76]) = true := by decide
  have hg0 : Gr w (w.alloc (.cells #[.string ⟨Rm.nINTERVAL.toArray⟩, .string ⟨tx.toArray⟩] 65)) := (Gr.refl w).allocO _
  have hM1 := hM.gr hg0
  have cF := fun w' => amount_any ⟨tx.toArray⟩ w'
  have c0 := hM1.box.c1
  have z0 := hM1.free 1
  have hT1 := hT.gr hg0
  have HM := Lib.hid hM1
  have HG := Lib.hid hg0
  have HR : Hid (Rm.runP (some V.r) (Rm.nINTERVAL, tx) = (Rm.cntR tx).map fun x => { V.r with ivl := x }) := Lib.hid (by
    show (Rm.setP V.r Rm.nINTERVAL tx).bind id = _
    rw [Rm.setP, if_neg (by decide), if_pos rfl]
    rfl)
  have e1 : (ByteArray.mk tx.toArray).data.toList = tx := by simp
  rw [e1] at cF
  dsimp only [sv1, sv2]
  generalize Rm.nINTERVAL = nm at *
  clear hM hM1 hT hg0 e1
  go_enter Tryz.func36, Tryz.ntmps36
  go_wp2_with (go_at_call 71; refine (cF _).mono ?_; rintro e w' ⟨v, q, rfl, hq, rfl⟩)
  go_ret
  refine ⟨_, rfl, (HG.out.sm _).trans (Sm.setCell _ _ _ _ (fun e => e rfl)), ?_⟩
  rw [HR.out]
  rcases hq with ⟨rfl, h⟩ | ⟨rfl, h⟩
  · rw [h]
    exact Or.inl ⟨rfl, _, rfl, HM.out.set_ivl v⟩
  · rw [h]
    exact Or.inr ⟨rfl, rfl⟩
set_option maxRecDepth 100000 in
set_option maxHeartbeats 4000000 in
theorem rd_cnt (tx : List UInt8) : RdOk (Rm.nCOUNT, tx) := by
  intro w B b V hT _ hM
  have hs0 : (Rm.nCOUNT == [70, 82, 69, 81]) = false := by decide
  have hs1 : (Rm.nCOUNT == [73, 78, 84, 69, 82, 86, 65, 76]) = false := by decide
  have hs2 : (Rm.nCOUNT == [67, 79, 85, 78, 84]) = true := by decide
  have hg0 : Gr w (w.alloc (.cells #[.string ⟨Rm.nCOUNT.toArray⟩, .string ⟨tx.toArray⟩] 65)) := (Gr.refl w).allocO _
  have hM1 := hM.gr hg0
  have cF := fun w' => amount_any ⟨tx.toArray⟩ w'
  have c0 := hM1.box.c2
  have z0 := hM1.free 2
  have hT1 := hT.gr hg0
  have HM := Lib.hid hM1
  have HG := Lib.hid hg0
  have HR : Hid (Rm.runP (some V.r) (Rm.nCOUNT, tx) = (Rm.cntR tx).map fun x => { V.r with cnt := x }) := Lib.hid (by
    show (Rm.setP V.r Rm.nCOUNT tx).bind id = _
    rw [Rm.setP, if_neg (by decide), if_neg (by decide), if_pos rfl]
    rfl)
  have e1 : (ByteArray.mk tx.toArray).data.toList = tx := by simp
  rw [e1] at cF
  dsimp only [sv1, sv2]
  generalize Rm.nCOUNT = nm at *
  clear hM hM1 hT hg0 e1
  go_enter Tryz.func36, Tryz.ntmps36
  go_wp2_with (go_at_call 71; refine (cF _).mono ?_; rintro e w' ⟨v, q, rfl, hq, rfl⟩)
  go_ret
  refine ⟨_, rfl, (HG.out.sm _).trans (Sm.setCell _ _ _ _ (fun e => e rfl)), ?_⟩
  rw [HR.out]
  rcases hq with ⟨rfl, h⟩ | ⟨rfl, h⟩
  · rw [h]
    exact Or.inl ⟨rfl, _, rfl, HM.out.set_cnt v⟩
  · rw [h]
    exact Or.inr ⟨rfl, rfl⟩
set_option maxRecDepth 100000 in
set_option maxHeartbeats 4000000 in
theorem rd_st (tx : List UInt8) : RdOk (Rm.nWKST, tx) := by
  intro w B b V hT _ hM
  have hs0 : (Rm.nWKST == [70, 82, 69, 81]) = false := by decide
  have hs1 : (Rm.nWKST == [73, 78, 84, 69, 82, 86, 65, 76]) = false := by decide
  have hs2 : (Rm.nWKST == [67, 79, 85, 78, 84]) = false := by decide
  have hs3 : (Rm.nWKST == [85, 78, 84, 73, 76]) = false := by decide
  have hs4 : (Rm.nWKST == [66, 89, 68, 65, 89]) = false := by decide
  have hs5 : (Rm.nWKST == [87, 75, 83, 84]) = true := by decide
  have hg0 : Gr w (w.alloc (.cells #[.string ⟨Rm.nWKST.toArray⟩, .string ⟨tx.toArray⟩] 65)) := (Gr.refl w).allocO _
  have hM1 := hM.gr hg0
  have cF := fun w' hT => weekday_any ⟨tx.toArray⟩ w' hT
  have c0 := hM1.box.c7
  have z0 := hM1.free 7
  have hT1 := hT.gr hg0
  have HM := Lib.hid hM1
  have HG := Lib.hid hg0
  have HR : Hid (Rm.runP (some V.r) (Rm.nWKST, tx) = if 0 ≤ Rm.which tx then some { V.r with st := Rm.which tx } else none) := Lib.hid (by
    show (Rm.setP V.r Rm.nWKST tx).bind id = _
    rw [Rm.setP, if_neg (by decide), if_neg (by decide), if_neg (by decide), if_neg (by decide), if_neg (by decide), if_neg (by decide), if_neg (by decide), if_neg (by decide), if_neg (by decide), if_neg (by decide), if_neg (by decide), if_neg (by decide), if_neg (by decide), if_pos rfl]
    rfl)
  have e1 : (ByteArray.mk tx.toArray).data.toList = tx := by simp
  rw [e1] at cF
  dsimp only [sv1, sv2]
  generalize Rm.nWKST = nm at *
  clear hM hM1 hT hg0 e1
  by_cases h : 0 ≤ Rm.which tx
  · rw [if_pos h, decide_eq_true h] at cF
    have HR2 := Lib.hid (HR.out.trans (if_pos h))
    generalize Rm.which tx = v at *
    clear h HR
    go_enter Tryz.func36, Tryz.ntmps36
    go_wp2_with (go_at_call 75; refine (cF _ (by assumption)).mono ?_; rintro e w' ⟨rfl, rfl⟩)
    go_ret
    exact ⟨_, rfl, (HG.out.sm _).trans (Sm.setCell _ _ _ _ (fun e => e rfl)), Or.inl ⟨rfl, _, HR2.out, HM.out.set_st v⟩⟩
  · rw [if_neg h, decide_eq_false h] at cF
    have HR2 := Lib.hid (HR.out.trans (if_neg h))
    clear h HR
    go_enter Tryz.func36, Tryz.ntmps36
    go_wp2_with (go_at_call 75; refine (cF _ (by assumption)).mono ?_; rintro e w' ⟨rfl, rfl⟩)
    go_ret
    exact ⟨_, rfl, (HG.out.sm _).trans (Sm.setCell _ _ _ _ (fun e => e rfl)), Or.inr ⟨rfl, HR2.out⟩⟩
end Go.Proofs.YtleeklcpbflfhaaGreatDoor
namespace Go.Proofs.YtleeklcpbflfhaaGreatDoor
open Go.RowKit

theorem info_time : (Tryz.prog.info? 23).map (·.size) = some 3 := by kernel_rfl
theorem time_one (x y : Int) (z : ByteArray) : ((#[.int .i64 x, .int .i64 y, .string z] : Array Value).all (·.oneCell')) = true := by simp [Value.oneCell']
theorem rdV_cases (o : Option (Int × Int × List UInt8)) : ∃ (k a : Int) (z : ByteArray) (c : Int), Va.rdV o = .tuple #[.agg #[.int .i64 k, .int .i64 a, .string z], .int .i64 c] ∧ (((c == 0) = true ∧ o = some (k, a, z.data.toList)) ∨ ((c == 0) = false ∧ o = none)) := by
  cases o with
  | none => exact ⟨0, 0, ⟨#[]⟩, 7, rfl, Or.inr ⟨rfl, rfl⟩⟩
  | some p =>
    obtain ⟨k, a, z⟩ := p
    exact ⟨k, a, ⟨z.toArray⟩, 0, rfl, Or.inl ⟨rfl, by simp⟩⟩
set_option maxRecDepth 100000 in
set_option maxHeartbeats 2000000 in
theorem until_any (s : ByteArray) (w : World) (hm : s.size ≤ 1000000) :
    Calls Tryz.prog 72 #[.string s] w fun e w' => ∃ (k a : Int) (z : ByteArray) (q : Bool), e = .returned (.tuple #[.agg #[.int .i64 k, .int .i64 a, .string z], .bool q]) ∧ Gr w w' ∧
      ((q = true ∧ Rm.utR s.data.toList = some (k, a, z.data.toList)) ∨ (q = false ∧ Rm.utR s.data.toList = none)) := by
  have cP := fun (d : Bool) w' => ptime_any s ⟨#[]⟩ d w' (by omega)
  have hsz := Lib.size_eq s
  have e1 : (ByteArray.mk #[]).data.toList = [] := rfl
  rw [e1] at cP
  have hd : (decide (s.data.toList.length = 8)) = ((s.size : Int) == 8) := by rw [← hsz, Bool.eq_iff_iff, decide_eq_true_eq, beq_iff_eq]; omega
  obtain ⟨k, a, z, c, hV, hq⟩ := rdV_cases (Rm.utR s.data.toList)
  have cP := fun w' => cP ((s.size : Int) == 8) w'
  have e2 : Va.rd s.data.toList [] ((s.size : Int) == 8) = Rm.utR s.data.toList := by rw [← hd]; rfl
  rw [e2, hV] at cP
  have HQ := Lib.hid hq
  have hb := Gr.refl (w.alloc (.cells #[.int .i64 0, .int .i64 0, .string ⟨#[]⟩] 23))
  clear hd e1 e2 hV hq hsz
  generalize Rm.utR s.data.toList = o at *
  go_enter Tryz.func72, Tryz.ntmps72
  go_wp2_with (first | (go_at_call 101; refine (cP _).mono ?_; rintro e w1 ⟨rfl, hg1⟩; have hb1 := hb.trans hg1) | (refine wpList_store_row rfl 23 (.tmp 4) (.tmp 12) rfl w1.heap.size #[.int .i64 k, .int .i64 a, .string z] rfl rfl 23 _ (heap_alloc_new _ _) info_time rfl (time_one _ _ _) ?_; rw [World.setRow_alloc_new]; have hg2 := Gr.refl (w1.alloc (.cells #[.int .i64 k, .int .i64 a, .string z] 23)); obtain ⟨d0, d1, d2⟩ := box3 hg2; have hb2 := (hb1.alloc #[.int .i64 k, .int .i64 a, .string z] 23); obtain ⟨c0, c1, c2⟩ := box3 hb2; have f0 := box_free hb2 0; have f1 := box_free hb2 1; have f2 := box_free hb2 2))
  obtain ⟨c0, c1, c2⟩ := box_set3 c0 c1 c2 (.int .i64 k) (.int .i64 a) (.string z)
  have hg := gr_set3 hb2 (.int .i64 k) (.int .i64 a) (.string z)
  generalize World.setCell _ _ _ = W at *
  refine bodyPost_ret (v := .tuple #[.agg #[.int .i64 k, .int .i64 a, .string z], .bool (c == 0)]) (by simp [results, Tryz.results72, go_sem, c0, c1, c2]) rfl ⟨k, a, z, c == 0, rfl, hg, HQ.out⟩
end Go.Proofs.YtleeklcpbflfhaaGreatDoor
namespace Go.Proofs.YtleeklcpbflfhaaGreatDoor
open Go.RowKit

/- the four cells of an end, set -/
def set4 (w : World) (b : Nat) (k a : Int) (z : ByteArray) (q : Bool) : World := (((w.setCell ⟨b, 3, none⟩ (.int .i64 k)).setCell ⟨b, 4, none⟩ (.int .i64 a)).setCell ⟨b, 5, none⟩ (.string z)).setCell ⟨b, 6, none⟩ (.bool q)
theorem sm_set4 (w : World) (b : Nat) (k a : Int) (z : ByteArray) (q : Bool) : Sm (fun k => k ≠ b) w (set4 w b k a z q) :=
  (((Sm.setCell _ _ _ _ (fun e => e rfl)).trans (Sm.setCell _ _ _ _ (fun e => e rfl))).trans (Sm.setCell _ _ _ _ (fun e => e rfl))).trans (Sm.setCell _ _ _ _ (fun e => e rfl))
theorem RBx.set_unt {w : World} {b : Nat} {V : Rm.Rv} (h : RBx w b V) (k a : Int) (z : ByteArray) (q : Bool) : RBx (set4 w b k a z q) b { V with r := { V.r with uk := k, ua := a, uz := z.data.toList, has := q }, z := z } := by
  have kk : ∀ {w : World} {o j v x}, o ≠ j → w.cell? ⟨b, o, none⟩ = some v → (w.setCell ⟨b, j, none⟩ x).cell? ⟨b, o, none⟩ = some v := fun ho hc => by
    rw [World.cell?_setCell_other (h := fun e => ho (congrArg Addr.off e).symm)]
    exact hc
  exact ⟨kk (by decide) (kk (by decide) (kk (by decide) (kk (by decide) h.c0))), kk (by decide) (kk (by decide) (kk (by decide) (kk (by decide) h.c1))), kk (by decide) (kk (by decide) (kk (by decide) (kk (by decide) h.c2))), kk (by decide) (kk (by decide) (kk (by decide) (World.cell?_setCell_same _ _ _ h.c3))), kk (by decide) (kk (by decide) (World.cell?_setCell_same _ _ _ (kk (by decide) h.c4))), kk (by decide) (World.cell?_setCell_same _ _ _ (kk (by decide) (kk (by decide) h.c5))), World.cell?_setCell_same _ _ _ (kk (by decide) (kk (by decide) (kk (by decide) h.c6))), kk (by decide) (kk (by decide) (kk (by decide) (kk (by decide) h.c7))), kk (by decide) (kk (by decide) (kk (by decide) (kk (by decide) h.c8))), kk (by decide) (kk (by decide) (kk (by decide) (kk (by decide) h.c9))), kk (by decide) (kk (by decide) (kk (by decide) (kk (by decide) h.c10))), kk (by decide) (kk (by decide) (kk (by decide) (kk (by decide) h.c11))), kk (by decide) (kk (by decide) (kk (by decide) (kk (by decide) h.c12))), kk (by decide) (kk (by decide) (kk (by decide) (kk (by decide) h.c13))), kk (by decide) (kk (by decide) (kk (by decide) (kk (by decide) h.c14))), kk (by decide) (kk (by decide) (kk (by decide) (kk (by decide) h.c15))), kk (by decide) (kk (by decide) (kk (by decide) (kk (by decide) h.c16)))⟩
theorem RdM.set_unt {w : World} {B b : Nat} {V : Rm.Rv} (h : RdM w B b V) (k a : Int) (z : ByteArray) (q : Bool) : RdM (set4 w b k a z q) B b { V with r := { V.r with uk := k, ua := a, uz := z.data.toList, has := q }, z := z } := by
  have hs := sm_set4 w b k a z q
  have hm := h.m.sm (fun i hi hn ad e => (h.off i hi hn ad e).1) (fun hn ad e => (h.offd hn ad e).1) hs
  refine ⟨h.box.set_unt k a z q, fun o => by unfold set4; rw [World.frozen?_setCell, World.frozen?_setCell, World.frozen?_setCell, World.frozen?_setCell]; exact h.free o, ⟨rfl, fun i hi => ?_, hm.d⟩, fun i hi => ?_, h.offd⟩
  · have := hm.l i hi
    rcases (show i = 0 ∨ i = 1 ∨ i = 2 ∨ i = 3 ∨ i = 4 ∨ i = 5 ∨ i = 6 ∨ i = 7 by omega) with rfl | rfl | rfl | rfl | rfl | rfl | rfl | rfl <;> exact this
  · have := h.off i hi
    rcases (show i = 0 ∨ i = 1 ∨ i = 2 ∨ i = 3 ∨ i = 4 ∨ i = 5 ∨ i = 6 ∨ i = 7 by omega) with rfl | rfl | rfl | rfl | rfl | rfl | rfl | rfl <;> exact this
set_option maxRecDepth 100000 in
set_option maxHeartbeats 4000000 in
theorem rd_unt (tx : List UInt8) (hl : tx.length ≤ 1000000) : RdOk (Rm.nUNTIL, tx) := by
  intro w B b V hT _ hM
  have hs0 : (Rm.nUNTIL == [70, 82, 69, 81]) = false := by decide
  have hs1 : (Rm.nUNTIL == [73, 78, 84, 69, 82, 86, 65, 76]) = false := by decide
  have hs2 : (Rm.nUNTIL == [67, 79, 85, 78, 84]) = false := by decide
  have hs3 : (Rm.nUNTIL == [85, 78, 84, 73, 76]) = true := by decide
  have hg0 : Gr w (w.alloc (.cells #[.string ⟨Rm.nUNTIL.toArray⟩, .string ⟨tx.toArray⟩] 65)) := (Gr.refl w).allocO _
  have hM1 := hM.gr hg0
  have cF := fun w' => until_any ⟨tx.toArray⟩ w' (by show tx.toArray.size ≤ _; rw [List.size_toArray]; exact hl)
  have HM := Lib.hid hM1
  have HG := Lib.hid hg0
  have HR : Hid (Rm.runP (some V.r) (Rm.nUNTIL, tx) = (Rm.utR tx).map fun x => { V.r with uk := x.1, ua := x.2.1, uz := x.2.2, has := true }) := Lib.hid (by
    show (Rm.setP V.r Rm.nUNTIL tx).bind id = _
    rw [Rm.setP, if_neg (by decide), if_neg (by decide), if_neg (by decide), if_pos rfl]
    rfl)
  have e1 : (ByteArray.mk tx.toArray).data.toList = tx := by simp
  rw [e1] at cF
  dsimp only [sv1, sv2]
  generalize Rm.nUNTIL = nm at *
  clear hM hM1 hT hg0 e1 hl
  go_enter Tryz.func36, Tryz.ntmps36
  go_wp2_with (go_at_call 72; refine (cF _).mono ?_; rintro e w1 ⟨k, a, z, q, rfl, hg1, hq⟩; have HM1 := Lib.hid (HM.out.gr hg1); have HQ := Lib.hid hq; clear hq; have c3 := HM1.out.box.c3; have c4 := HM1.out.box.c4; have c5 := HM1.out.box.c5; have c6 := HM1.out.box.c6; have f3 := HM1.out.free 3; have f4 := HM1.out.free 4; have f5 := HM1.out.free 5; have f6 := HM1.out.free 6)
  go_ret
  refine ⟨_, rfl, ((HG.out.trans hg1).sm _).trans (sm_set4 w1 b k a z q), ?_⟩
  rw [HR.out]
  rcases HQ.out with ⟨rfl, h⟩ | ⟨rfl, h⟩
  · rw [h]
    exact Or.inl ⟨rfl, _, rfl, HM1.out.set_unt k a z true⟩
  · rw [h]
    exact Or.inr ⟨rfl, rfl⟩
end Go.Proofs.YtleeklcpbflfhaaGreatDoor
