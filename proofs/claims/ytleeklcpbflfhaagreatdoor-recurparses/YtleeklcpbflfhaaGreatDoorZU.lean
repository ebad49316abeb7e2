/- The texts RcRd4, RcRd5, RcRd6, one behind the other. -/
import Derived.Test.YtleeklcpbflfhaaGreatDoorZH
namespace Go.Proofs.YtleeklcpbflfhaaGreatDoor
open Go.RowKit

namespace Rm
def Ru.setL (r : Ru) (i : Nat) (xs : List Int) : Ru := match i with
  | 0 => { r with sec := xs }
  | 1 => { r with min := xs }
  | 2 => { r with hour := xs }
  | 3 => { r with mday := xs }
  | 4 => { r with yday := xs }
  | 5 => { r with week := xs }
  | 6 => { r with month := xs }
  | _ => { r with pos := xs }
def Rv.setL (V : Rv) (i : Nat) (s : Sl) (xs : List Int) : Rv := match i with
  | 0 => { V with r := { V.r with sec := xs }, sec := s }
  | 1 => { V with r := { V.r with min := xs }, min := s }
  | 2 => { V with r := { V.r with hour := xs }, hour := s }
  | 3 => { V with r := { V.r with mday := xs }, mday := s }
  | 4 => { V with r := { V.r with yday := xs }, yday := s }
  | 5 => { V with r := { V.r with week := xs }, week := s }
  | 6 => { V with r := { V.r with month := xs }, month := s }
  | _ => { V with r := { V.r with pos := xs }, pos := s }
theorem setL_r (V : Rv) {i : Nat} (hi : i < 8) (s : Sl) (xs : List Int) : (V.setL i s xs).r = V.r.setL i xs := by
  rcases (show i = 0 ∨ i = 1 ∨ i = 2 ∨ i = 3 ∨ i = 4 ∨ i = 5 ∨ i = 6 ∨ i = 7 by omega) with rfl | rfl | rfl | rfl | rfl | rfl | rfl | rfl <;> rfl
theorem setL_ls (V : Rv) {i : Nat} (hi : i < 8) (s : Sl) (xs : List Int) {j : Nat} (hj : j < 8) : ((V.setL i s xs).r.ls j = if j = i then xs else V.r.ls j) ∧ (V.setL i s xs).sl j = if j = i then s else V.sl j := by
  rcases (show i = 0 ∨ i = 1 ∨ i = 2 ∨ i = 3 ∨ i = 4 ∨ i = 5 ∨ i = 6 ∨ i = 7 by omega) with rfl | rfl | rfl | rfl | rfl | rfl | rfl | rfl <;> rcases (show j = 0 ∨ j = 1 ∨ j = 2 ∨ j = 3 ∨ j = 4 ∨ j = 5 ∨ j = 6 ∨ j = 7 by omega) with rfl | rfl | rfl | rfl | rfl | rfl | rfl | rfl <;> exact ⟨rfl, rfl⟩
theorem setL_day (V : Rv) {i : Nat} (hi : i < 8) (s : Sl) (xs : List Int) : (V.setL i s xs).day = V.day ∧ (V.setL i s xs).r.day = V.r.day ∧ (V.setL i s xs).z = V.z ∧ (V.setL i s xs).r.uz = V.r.uz := by
  rcases (show i = 0 ∨ i = 1 ∨ i = 2 ∨ i = 3 ∨ i = 4 ∨ i = 5 ∨ i = 6 ∨ i = 7 by omega) with rfl | rfl | rfl | rfl | rfl | rfl | rfl | rfl <;> exact ⟨rfl, rfl, rfl, rfl⟩
theorem run_list (r : Ru) {i : Nat} (hi : i < 8) (tx : List UInt8) : runP (some r) (nmL i, tx) = (lr (may i) tx).map fun xs => r.setL i xs := by
  rcases (show i = 0 ∨ i = 1 ∨ i = 2 ∨ i = 3 ∨ i = 4 ∨ i = 5 ∨ i = 6 ∨ i = 7 by omega) with rfl | rfl | rfl | rfl | rfl | rfl | rfl | rfl
  · show (setP r nBYSECOND tx).bind id = _
    rw [setP, if_neg (by decide), if_neg (by decide), if_neg (by decide), if_neg (by decide), if_pos rfl]
    rfl
  · show (setP r nBYMINUTE tx).bind id = _
    rw [setP, if_neg (by decide), if_neg (by decide), if_neg (by decide), if_neg (by decide), if_neg (by decide), if_pos rfl]
    rfl
  · show (setP r nBYHOUR tx).bind id = _
    rw [setP, if_neg (by decide), if_neg (by decide), if_neg (by decide), if_neg (by decide), if_neg (by decide), if_neg (by decide), if_pos rfl]
    rfl
  · show (setP r nBYMONTHDAY tx).bind id = _
    rw [setP, if_neg (by decide), if_neg (by decide), if_neg (by decide), if_neg (by decide), if_neg (by decide), if_neg (by decide), if_neg (by decide), if_neg (by decide), if_pos rfl]
    rfl
  · show (setP r nBYYEARDAY tx).bind id = _
    rw [setP, if_neg (by decide), if_neg (by decide), if_neg (by decide), if_neg (by decide), if_neg (by decide), if_neg (by decide), if_neg (by decide), if_neg (by decide), if_neg (by decide), if_pos rfl]
    rfl
  · show (setP r nBYWEEKNO tx).bind id = _
    rw [setP, if_neg (by decide), if_neg (by decide), if_neg (by decide), if_neg (by decide), if_neg (by decide), if_neg (by decide), if_neg (by decide), if_neg (by decide), if_neg (by decide), if_neg (by decide), if_pos rfl]
    rfl
  · show (setP r nBYMONTH tx).bind id = _
    rw [setP, if_neg (by decide), if_neg (by decide), if_neg (by decide), if_neg (by decide), if_neg (by decide), if_neg (by decide), if_neg (by decide), if_neg (by decide), if_neg (by decide), if_neg (by decide), if_neg (by decide), if_pos rfl]
    rfl
  · show (setP r nBYSETPOS tx).bind id = _
    rw [setP, if_neg (by decide), if_neg (by decide), if_neg (by decide), if_neg (by decide), if_neg (by decide), if_neg (by decide), if_neg (by decide), if_neg (by decide), if_neg (by decide), if_neg (by decide), if_neg (by decide), if_neg (by decide), if_pos rfl]
    rfl
end Rm
theorem RBx.set_ls {w : World} {b : Nat} {V : Rm.Rv} (h : RBx w b V) {i : Nat} (hi : i < 8) (A : Option Addr) (n c : Nat) (xs : List Int) : RBx (w.setCell ⟨b, Rm.off i, none⟩ (.slice A n c)) b (V.setL i ⟨A, n, c⟩ xs) := by
  have k : ∀ {j o : Nat} {v}, o ≠ j → w.cell? ⟨b, o, none⟩ = some v → (w.setCell ⟨b, j, none⟩ (.slice A n c)).cell? ⟨b, o, none⟩ = some v := fun ho hc => by
    rw [World.cell?_setCell_other (h := fun e => ho (congrArg Addr.off e).symm)]
    exact hc
  rcases (show i = 0 ∨ i = 1 ∨ i = 2 ∨ i = 3 ∨ i = 4 ∨ i = 5 ∨ i = 6 ∨ i = 7 by omega) with rfl | rfl | rfl | rfl | rfl | rfl | rfl | rfl
  · exact ⟨k (by decide) h.c0, k (by decide) h.c1, k (by decide) h.c2, k (by decide) h.c3, k (by decide) h.c4, k (by decide) h.c5, k (by decide) h.c6, k (by decide) h.c7, World.cell?_setCell_same _ _ _ h.c8, k (by decide) h.c9, k (by decide) h.c10, k (by decide) h.c11, k (by decide) h.c12, k (by decide) h.c13, k (by decide) h.c14, k (by decide) h.c15, k (by decide) h.c16⟩
  · exact ⟨k (by decide) h.c0, k (by decide) h.c1, k (by decide) h.c2, k (by decide) h.c3, k (by decide) h.c4, k (by decide) h.c5, k (by decide) h.c6, k (by decide) h.c7, k (by decide) h.c8, World.cell?_setCell_same _ _ _ h.c9, k (by decide) h.c10, k (by decide) h.c11, k (by decide) h.c12, k (by decide) h.c13, k (by decide) h.c14, k (by decide) h.c15, k (by decide) h.c16⟩
  · exact ⟨k (by decide) h.c0, k (by decide) h.c1, k (by decide) h.c2, k (by decide) h.c3, k (by decide) h.c4, k (by decide) h.c5, k (by decide) h.c6, k (by decide) h.c7, k (by decide) h.c8, k (by decide) h.c9, World.cell?_setCell_same _ _ _ h.c10, k (by decide) h.c11, k (by decide) h.c12, k (by decide) h.c13, k (by decide) h.c14, k (by decide) h.c15, k (by decide) h.c16⟩
  · exact ⟨k (by decide) h.c0, k (by decide) h.c1, k (by decide) h.c2, k (by decide) h.c3, k (by decide) h.c4, k (by decide) h.c5, k (by decide) h.c6, k (by decide) h.c7, k (by decide) h.c8, k (by decide) h.c9, k (by decide) h.c10, k (by decide) h.c11, World.cell?_setCell_same _ _ _ h.c12, k (by decide) h.c13, k (by decide) h.c14, k (by decide) h.c15, k (by decide) h.c16⟩
  · exact ⟨k (by decide) h.c0, k (by decide) h.c1, k (by decide) h.c2, k (by decide) h.c3, k (by decide) h.c4, k (by decide) h.c5, k (by decide) h.c6, k (by decide) h.c7, k (by decide) h.c8, k (by decide) h.c9, k (by decide) h.c10, k (by decide) h.c11, k (by decide) h.c12, World.cell?_setCell_same _ _ _ h.c13, k (by decide) h.c14, k (by decide) h.c15, k (by decide) h.c16⟩
  · exact ⟨k (by decide) h.c0, k (by decide) h.c1, k (by decide) h.c2, k (by decide) h.c3, k (by decide) h.c4, k (by decide) h.c5, k (by decide) h.c6, k (by decide) h.c7, k (by decide) h.c8, k (by decide) h.c9, k (by decide) h.c10, k (by decide) h.c11, k (by decide) h.c12, k (by decide) h.c13, World.cell?_setCell_same _ _ _ h.c14, k (by decide) h.c15, k (by decide) h.c16⟩
  · exact ⟨k (by decide) h.c0, k (by decide) h.c1, k (by decide) h.c2, k (by decide) h.c3, k (by decide) h.c4, k (by decide) h.c5, k (by decide) h.c6, k (by decide) h.c7, k (by decide) h.c8, k (by decide) h.c9, k (by decide) h.c10, k (by decide) h.c11, k (by decide) h.c12, k (by decide) h.c13, k (by decide) h.c14, World.cell?_setCell_same _ _ _ h.c15, k (by decide) h.c16⟩
  · exact ⟨k (by decide) h.c0, k (by decide) h.c1, k (by decide) h.c2, k (by decide) h.c3, k (by decide) h.c4, k (by decide) h.c5, k (by decide) h.c6, k (by decide) h.c7, k (by decide) h.c8, k (by decide) h.c9, k (by decide) h.c10, k (by decide) h.c11, k (by decide) h.c12, k (by decide) h.c13, k (by decide) h.c14, k (by decide) h.c15, World.cell?_setCell_same _ _ _ h.c16⟩
theorem RdM.set_ls {w : World} {B b : Nat} {V : Rm.Rv} (h : RdM w B b V) {i : Nat} (hi : i < 8) (A : Option Addr) (n c : Nat) (xs : List Int) (hN : Nums w w.heap.size A n xs) (ho : 0 < n → ∀ ad, A = some ad → ad.block ≠ b ∧ B ≤ ad.block) :
    RdM (w.setCell ⟨b, Rm.off i, none⟩ (.slice A n c)) B b (V.setL i ⟨A, n, c⟩ xs) := by
  have hs : Sm (fun k => k ≠ b) w (w.setCell ⟨b, Rm.off i, none⟩ (.slice A n c)) := Sm.setCell _ _ _ _ (fun e => e rfl)
  have hm := h.m.sm (fun i hi hn ad e => (h.off i hi hn ad e).1) (fun hn ad e => (h.offd hn ad e).1) hs
  obtain ⟨d1, d2, d3, d4⟩ := Rm.setL_day V hi ⟨A, n, c⟩ xs
  refine ⟨h.box.set_ls hi A n c xs, fun o => by rw [World.frozen?_setCell]; exact h.free o, ⟨by rw [d3, d4]; exact hm.z, fun j hj => ?_, by rw [d1, d2]; exact hm.d⟩, fun j hj => ?_, by rw [d1]; exact h.offd⟩
  · obtain ⟨e1, e2⟩ := Rm.setL_ls V hi ⟨A, n, c⟩ xs hj
    rw [e1, e2]
    by_cases e : j = i
    · rw [if_pos e, if_pos e]
      exact hN.sm (fun hn ad e => (ho hn ad e).1) hs
    · rw [if_neg e, if_neg e]
      exact hm.l j hj
  · obtain ⟨_, e2⟩ := Rm.setL_ls V hi ⟨A, n, c⟩ xs hj
    rw [e2]
    by_cases e : j = i
    · rw [if_pos e]
      exact ho
    · rw [if_neg e]
      exact h.off j hj
theorem RBx.set_day {w : World} {b : Nat} {V : Rm.Rv} (h : RBx w b V) (A : Option Addr) (n c : Nat) (xs : List (Int × Int)) : RBx (w.setCell ⟨b, 11, none⟩ (.slice A n c)) b { V with r := { V.r with day := xs }, day := ⟨A, n, c⟩ } := by
  have k : ∀ {j o : Nat} {v}, o ≠ j → w.cell? ⟨b, o, none⟩ = some v → (w.setCell ⟨b, j, none⟩ (.slice A n c)).cell? ⟨b, o, none⟩ = some v := fun ho hc => by
    rw [World.cell?_setCell_other (h := fun e => ho (congrArg Addr.off e).symm)]
    exact hc
  exact ⟨k (by decide) h.c0, k (by decide) h.c1, k (by decide) h.c2, k (by decide) h.c3, k (by decide) h.c4, k (by decide) h.c5, k (by decide) h.c6, k (by decide) h.c7, k (by decide) h.c8, k (by decide) h.c9, k (by decide) h.c10, World.cell?_setCell_same _ _ _ h.c11, k (by decide) h.c12, k (by decide) h.c13, k (by decide) h.c14, k (by decide) h.c15, k (by decide) h.c16⟩
theorem RdM.set_day {w : World} {B b : Nat} {V : Rm.Rv} (h : RdM w B b V) (A : Option Addr) (n c : Nat) (xs : List (Int × Int)) (hN : Days w w.heap.size A n xs) (ho : 0 < n → ∀ ad, A = some ad → ad.block ≠ b ∧ B ≤ ad.block) :
    RdM (w.setCell ⟨b, 11, none⟩ (.slice A n c)) B b { V with r := { V.r with day := xs }, day := ⟨A, n, c⟩ } := by
  have hs : Sm (fun k => k ≠ b) w (w.setCell ⟨b, 11, none⟩ (.slice A n c)) := Sm.setCell _ _ _ _ (fun e => e rfl)
  have hm := h.m.sm (fun i hi hn ad e => (h.off i hi hn ad e).1) (fun hn ad e => (h.offd hn ad e).1) hs
  refine ⟨h.box.set_day A n c xs, fun o => by rw [World.frozen?_setCell]; exact h.free o, ⟨hm.z, fun i hi => ?_, Days.sm hN (fun hn ad e => (ho hn ad e).1) hs⟩, fun i hi => ?_, ho⟩
  · have := hm.l i hi
    rcases (show i = 0 ∨ i = 1 ∨ i = 2 ∨ i = 3 ∨ i = 4 ∨ i = 5 ∨ i = 6 ∨ i = 7 by omega) with rfl | rfl | rfl | rfl | rfl | rfl | rfl | rfl <;> exact this
  · have := h.off i hi
    rcases (show i = 0 ∨ i = 1 ∨ i = 2 ∨ i = 3 ∨ i = 4 ∨ i = 5 ∨ i = 6 ∨ i = 7 by omega) with rfl | rfl | rfl | rfl | rfl | rfl | rfl | rfl <;> exact this
end Go.Proofs.YtleeklcpbflfhaaGreatDoor
namespace Go.Proofs.YtleeklcpbflfhaaGreatDoor
open Go.RowKit

/- what a list that is read is: new, or none -/
def NewD (w w' : World) (o : Option (List (Int × Int))) (A : Option Addr) (n : Nat) (q : Bool) : Prop :=
  (q = true ∧ ∃ xs, o = some xs ∧ Days w' w'.heap.size A n xs ∧ (0 < n → ∀ ad, A = some ad → w.heap.size ≤ ad.block)) ∨ (q = false ∧ o = none)
def NewI (w w' : World) (o : Option (List Int)) (A : Option Addr) (n : Nat) (q : Bool) : Prop :=
  (q = true ∧ ∃ xs, o = some xs ∧ Nums w' w'.heap.size A n xs ∧ (0 < n → ∀ ad, A = some ad → w.heap.size ≤ ad.block)) ∨ (q = false ∧ o = none)
set_option maxRecDepth 100000 in
set_option maxHeartbeats 4000000 in
theorem rd_day (tx : List UInt8) (cL : ∀ w, TbR w → Calls Tryz.prog 73 #[.string ⟨tx.toArray⟩, .func (.func 74) #[] #[], .func (.func 32) #[] #[]] w fun e w' => ∃ A n c q, e = .returned (.tuple #[.slice A n c, .bool q]) ∧ Gr w w' ∧ Hid (NewD w w' (Rm.ldr tx) A n q)) : RdOk (Rm.nBYDAY, tx) := by
  intro w B b V hT hB hM
  have hs0 : (Rm.nBYDAY == [70, 82, 69, 81]) = false := by decide
  have hs1 : (Rm.nBYDAY == [73, 78, 84, 69, 82, 86, 65, 76]) = false := by decide
  have hs2 : (Rm.nBYDAY == [67, 79, 85, 78, 84]) = false := by decide
  have hs3 : (Rm.nBYDAY == [85, 78, 84, 73, 76]) = false := by decide
  have hs4 : (Rm.nBYDAY == [66, 89, 68, 65, 89]) = true := by decide
  have hg0 : Gr w (w.alloc (.cells #[.string ⟨Rm.nBYDAY.toArray⟩, .string ⟨tx.toArray⟩] 65)) := (Gr.refl w).allocO _
  have hM1 := hM.gr hg0
  have hT1 := hT.gr hg0
  have HM := Lib.hid hM1
  have HG := Lib.hid hg0
  have HBB := Lib.hid (Nat.le_trans hB hg0.lt)
  have hbl : b < w.heap.size := World.block_lt_of_cell? _ _ hM.box.c0
  have HBL := Lib.hid (Nat.lt_of_lt_of_le hbl hg0.lt)
  have HR : Hid (Rm.runP (some V.r) (Rm.nBYDAY, tx) = (Rm.ldr tx).map fun x => { V.r with day := x }) := Lib.hid (by
    show (Rm.setP V.r Rm.nBYDAY tx).bind id = _
    rw [Rm.setP, if_neg (by decide), if_neg (by decide), if_neg (by decide), if_neg (by decide), if_neg (by decide), if_neg (by decide), if_neg (by decide), if_pos rfl]
    rfl)
  dsimp only [sv1, sv2]
  generalize Rm.nBYDAY = nm at *
  clear hM hM1 hT hg0 hB hbl
  go_enter Tryz.func36, Tryz.ntmps36
  go_wp2_with (go_at_call 73; refine (cL _ hT1).mono ?_; rintro e w1 ⟨A, n, c, q, rfl, hg1, HQ⟩; have HM1 := Lib.hid (HM.out.gr hg1); have c11 := HM1.out.box.c11; have f11 := HM1.out.free 11)
  go_ret
  refine ⟨_, rfl, ((HG.out.trans hg1).sm _).trans (Sm.setCell _ _ _ _ (fun e => e rfl)), ?_⟩
  rw [HR.out]
  rcases HQ.out with ⟨rfl, xs, h, hD, ho⟩ | ⟨rfl, h⟩
  · rw [h]
    exact Or.inl ⟨rfl, _, rfl, HM1.out.set_day A n c xs hD (fun hn ad e => ⟨fun h => by have h1 := ho hn ad e; have h2 := HBL.out; rw [h] at h1; exact absurd h1 (Nat.not_le_of_lt h2), Nat.le_trans HBB.out (ho hn ad e)⟩)⟩
  · rw [h]
    exact Or.inr ⟨rfl, rfl⟩
end Go.Proofs.YtleeklcpbflfhaaGreatDoor
namespace Go.Proofs.YtleeklcpbflfhaaGreatDoor
open Go.RowKit

/- the contract of readNumbers, for a part p -/
def RdNs (p : List UInt8 × List UInt8) : Prop :=
  ∀ (w : World) (B b : Nat) (V : Rm.Rv), TbR w → B ≤ w.heap.size → RdM w B b V → Calls Tryz.prog 76 #[.pointer (some ⟨b, 0, none⟩), .agg #[sv1 p, sv2 p]] w fun e w' => ∃ q, e = .returned (.bool q) ∧ Sm (fun k => k ≠ b) w w' ∧
    Hid ((q = true ∧ ∃ V', Rm.runP (some V.r) p = some V'.r ∧ RdM w' B b V') ∨ (q = false ∧ Rm.runP (some V.r) p = none))
set_option maxRecDepth 100000 in
set_option maxHeartbeats 4000000 in
theorem rd_ls {i : Nat} (hi : i < 8) (tx : List UInt8) (cL : RdNs (Rm.nmL i, tx)) : RdOk (Rm.nmL i, tx) := by
  intro w B b V hT hB hM
  have hcs : i = 0 ∨ i = 1 ∨ i = 2 ∨ i = 3 ∨ i = 4 ∨ i = 5 ∨ i = 6 ∨ i = 7 := by omega
  have hs0 : (Rm.nmL i == [70, 82, 69, 81]) = false := by rcases hcs with rfl | rfl | rfl | rfl | rfl | rfl | rfl | rfl <;> decide
  have hs1 : (Rm.nmL i == [73, 78, 84, 69, 82, 86, 65, 76]) = false := by rcases hcs with rfl | rfl | rfl | rfl | rfl | rfl | rfl | rfl <;> decide
  have hs2 : (Rm.nmL i == [67, 79, 85, 78, 84]) = false := by rcases hcs with rfl | rfl | rfl | rfl | rfl | rfl | rfl | rfl <;> decide
  have hs3 : (Rm.nmL i == [85, 78, 84, 73, 76]) = false := by rcases hcs with rfl | rfl | rfl | rfl | rfl | rfl | rfl | rfl <;> decide
  have hs4 : (Rm.nmL i == [66, 89, 68, 65, 89]) = false := by rcases hcs with rfl | rfl | rfl | rfl | rfl | rfl | rfl | rfl <;> decide
  have hs5 : (Rm.nmL i == [87, 75, 83, 84]) = false := by rcases hcs with rfl | rfl | rfl | rfl | rfl | rfl | rfl | rfl <;> decide
  have hg0 : Gr w (w.alloc (.cells #[.string ⟨(Rm.nmL i).toArray⟩, .string ⟨tx.toArray⟩] 65)) := (Gr.refl w).allocO _
  have cF := cL _ B b V (hT.gr hg0) (Nat.le_trans hB hg0.lt) (hM.gr hg0)
  have HG := Lib.hid hg0
  dsimp only [sv1, sv2] at cF ⊢
  obtain ⟨Z, hZ⟩ : ∃ Z, Rm.runP (some V.r) (Rm.nmL i, tx) = Z := ⟨_, rfl⟩
  rw [hZ] at cF ⊢
  clear hM hT hg0 hB cL hcs hi hZ
  generalize Rm.nmL i = nm at *
  go_enter Tryz.func36, Tryz.ntmps36
  go_wp2_with (go_at_call 76; refine cF.mono ?_; rintro e w1 ⟨q, rfl, hsm, HQ⟩)
  go_ret
  exact ⟨_, rfl, (HG.out.sm _).trans hsm, HQ.out⟩
end Go.Proofs.YtleeklcpbflfhaaGreatDoor
