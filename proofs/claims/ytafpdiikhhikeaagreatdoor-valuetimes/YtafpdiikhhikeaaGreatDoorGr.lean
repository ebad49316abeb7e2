/- The world behind a call that makes memory of its own and turns none of what was there. -/
import Derived.WalkKit
import Derived.WalkSmall
import Derived.Lib.Hide
import Derived.Deep.QuietTactic
namespace Go.Proofs.YtafpdiikhhikeaaGreatDoor
open Go.RowKit

structure Gr (w w' : World) : Prop where
  below : Below w.heap.size w w'
theorem Gr.refl (w : World) : Gr w w := ⟨Below.refl _ _⟩
theorem Gr.alloc {w w' : World} (h : Gr w w') (c : Array Value) (t : TypeId) : Gr w (w'.alloc (.cells c t)) := ⟨h.below.alloc h.below.size _⟩
theorem Gr.setCell {w w' : World} (h : Gr w w') {a : Addr} (ha : w.heap.size ≤ a.block) (v : Value) : Gr w (w'.setCell a v) := ⟨h.below.setCell ha v⟩
theorem Gr.drew {w w' : World} (h : Gr w w') : Gr w w'.drew := ⟨h.below.drew⟩
theorem Gr.drewN {w w' : World} (h : Gr w w') (n : Nat) : Gr w (w'.drewN n) := ⟨below_drewN h.below n⟩
theorem Gr.trans {a b c : World} (h : Gr a b) (k : Gr b c) : Gr a c := ⟨h.below.trans (k.below.mono h.below.size)⟩
theorem Gr.frozen {w w' : World} (h : Gr w w') {a : Addr} (ha : a.block < w.heap.size) : w'.frozen? a = w.frozen? a := by
  unfold World.frozen?; rw [h.below.block _ ha]
theorem Gr.lt {w w' : World} (h : Gr w w') : w.heap.size ≤ w'.heap.size := h.below.size

/- a callee that leaves the world alone, inside a region that draws its order -/
theorem qsame {P : Program} {f : FuncId} {args : Array Value} {w : World} {n : Nat} {v : Value}
    (h : Calls P f args (w.drewN n) fun e w' => e = .returned v ∧ w.drewN n = w') : Calls P f args (w.drewN n) fun e w' => e = .returned v ∧ ∃ m, w' = w.drewN m :=
  h.mono fun _ _ ⟨he, hw⟩ => ⟨he, n, hw.symm⟩

/- a box of three cells, behind a call that turns nothing below it -/
theorem box3 {w w1 : World} {a b c : Value} {t : TypeId} (hb : Gr (w.alloc (.cells #[a, b, c] t)) w1) :
    w1.cell? ⟨w.heap.size, 0, none⟩ = some a ∧ w1.cell? ⟨w.heap.size, 1, none⟩ = some b ∧ w1.cell? ⟨w.heap.size, 2, none⟩ = some c := by
  refine ⟨?_, ?_, ?_⟩ <;> (rw [hb.below.cell (by simp)]; simp)

/- a box of three cells that has just been made -/
theorem box_now (w : World) (a b c : Value) (t : TypeId) :
    (w.alloc (.cells #[a, b, c] t)).cell? ⟨w.heap.size, 0, none⟩ = some a ∧ (w.alloc (.cells #[a, b, c] t)).cell? ⟨w.heap.size, 1, none⟩ = some b ∧ (w.alloc (.cells #[a, b, c] t)).cell? ⟨w.heap.size, 2, none⟩ = some c := box3 (Gr.refl _)
/- the box is not frozen -/
theorem box_free {w w1 : World} {c : Array Value} {t : TypeId} (hb : Gr (w.alloc (.cells c t)) w1) (o : Nat) : w1.frozen? ⟨w.heap.size, o, none⟩ = false := by
  rw [hb.frozen (by simp), frozen?_alloc_cells]; simp [World.frozen?]
/- a box of three cells, all of them set -/
theorem box_set3 {w : World} {b : Nat} {a0 a1 a2 : Value} (c0 : w.cell? ⟨b, 0, none⟩ = some a0) (c1 : w.cell? ⟨b, 1, none⟩ = some a1) (c2 : w.cell? ⟨b, 2, none⟩ = some a2) (x y z : Value) :
    (((w.setCell ⟨b, 0, none⟩ x).setCell ⟨b, 1, none⟩ y).setCell ⟨b, 2, none⟩ z).cell? ⟨b, 0, none⟩ = some x ∧ (((w.setCell ⟨b, 0, none⟩ x).setCell ⟨b, 1, none⟩ y).setCell ⟨b, 2, none⟩ z).cell? ⟨b, 1, none⟩ = some y ∧ (((w.setCell ⟨b, 0, none⟩ x).setCell ⟨b, 1, none⟩ y).setCell ⟨b, 2, none⟩ z).cell? ⟨b, 2, none⟩ = some z := by
  refine ⟨?_, ?_, ?_⟩
  · rw [World.cell?_setCell_other (h := by simp), World.cell?_setCell_other (h := by simp)]; exact World.cell?_setCell_same _ _ _ c0
  · rw [World.cell?_setCell_other (h := by simp)]; refine World.cell?_setCell_same _ _ _ (u := a1) ?_; rw [World.cell?_setCell_other (h := by simp)]; exact c1
  · refine World.cell?_setCell_same _ _ _ (u := a2) ?_; rw [World.cell?_setCell_other (h := by simp), World.cell?_setCell_other (h := by simp)]; exact c2
theorem gr_set3 {w w1 : World} {c : Array Value} {t : TypeId} (hb : Gr (w.alloc (.cells c t)) w1) (x y z : Value) :
    Gr w (((w1.setCell ⟨w.heap.size, 0, none⟩ x).setCell ⟨w.heap.size, 1, none⟩ y).setCell ⟨w.heap.size, 2, none⟩ z) :=
  ((((Gr.refl w).alloc c t).trans hb).setCell (Nat.le_refl _) x |>.setCell (Nat.le_refl _) y).setCell (Nat.le_refl _) z
/- a cell that lay in a box, behind steps that only make memory -/
theorem Gr.keeps {w w' : World} (h : Gr w w') {b o : Nat} {v : Value} (hb : b < w.heap.size) (hc : w.cell? ⟨b, o, none⟩ = some v) : w'.cell? ⟨b, o, none⟩ = some v := by
  rw [h.below.cell hb]; exact hc

theorem ret_bool {a b : Bool} (h : a = b) : Ending.returned (.bool a) = .returned (.bool b) := by rw [h]
theorem ret_int {k : IntKind} {a b : Int} (h : a = b) : Ending.returned (.int k a) = .returned (.int k b) := by rw [h]
end Go.Proofs.YtafpdiikhhikeaaGreatDoor
