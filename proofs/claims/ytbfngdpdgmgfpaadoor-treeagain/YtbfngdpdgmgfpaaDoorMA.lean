/- The texts Gr, Fd, Fu, RefNx, Eu, Es, Ln, Tt, Tp, one behind the other. -/
import Derived.WalkKit
import Derived.WalkSmall
import Derived.Lib.Hide
import Derived.Deep.QuietTactic
import Derived.Lib.ValidU
import Derived.Lib.Strings
import Derived.Lib.Join
namespace Go.Proofs.YtbfngdpdgmgfpaaDoor
open Go.RowKit

structure Gr (w w' : World) : Prop where
  below : Below w.heap.size w w'
theorem Gr.refl (w : World) : Gr w w := ⟨Below.refl _ _⟩
theorem Gr.alloc {w w' : World} (h : Gr w w') (c : Array Value) (t : TypeId) : Gr w (w'.alloc (.cells c t)) := ⟨h.below.alloc h.below.size _⟩
theorem Gr.setCell {w w' : World} (h : Gr w w') {a : Addr} (ha : w.heap.size ≤ a.block) (v : Value) : Gr w (w'.setCell a v) := ⟨h.below.setCell ha v⟩
theorem Gr.drew {w w' : World} (h : Gr w w') : Gr w w'.drew := ⟨h.below.drew⟩
theorem Gr.drewN {w w' : World} (h : Gr w w') (n : Nat) : Gr w (w'.drewN n) := ⟨below_drewN h.below n⟩
theorem Gr.trans {a b c : World} (h : Gr a b) (k : Gr b c) : Gr a c := ⟨h.below.trans (k.below.mono h.below.size)⟩
theorem Gr.frozen {w w' : World} (h : Gr w w') {a : Addr} (ha : a.block < w.heap.size) : w'.frozen? a = w.frozen? a := by
  unfold World.frozen?; rw [h.below.block _ ha]
theorem Gr.lt {w w' : World} (h : Gr w w') : w.heap.size ≤ w'.heap.size := h.below.size

/- a callee that leaves the world alone, inside a region that draws its order -/
theorem qsame {P : Program} {f : FuncId} {args : Array Value} {w : World} {n : Nat} {v : Value}
    (h : Calls P f args (w.drewN n) fun e w' => e = .returned v ∧ w.drewN n = w') : Calls P f args (w.drewN n) fun e w' => e = .returned v ∧ ∃ m, w' = w.drewN m :=
  h.mono fun _ _ ⟨he, hw⟩ => ⟨he, n, hw.symm⟩

/- a box of three cells, behind a call that turns nothing below it -/
theorem box3 {w w1 : World} {a b c : Value} {t : TypeId} (hb : Gr (w.alloc (.cells #[a, b, c] t)) w1) :
    w1.cell? ⟨w.heap.size, 0, none⟩ = some a ∧ w1.cell? ⟨w.heap.size, 1, none⟩ = some b ∧ w1.cell? ⟨w.heap.size, 2, none⟩ = some c := by
  refine ⟨?_, ?_, ?_⟩ <;> (rw [hb.below.cell (by simp)]; simp)

/- a box of three cells that has just been made -/
theorem box_now (w : World) (a b c : Value) (t : TypeId) :
    (w.alloc (.cells #[a, b, c] t)).cell? ⟨w.heap.size, 0, none⟩ = some a ∧ (w.alloc (.cells #[a, b, c] t)).cell? ⟨w.heap.size, 1, none⟩ = some b ∧ (w.alloc (.cells #[a, b, c] t)).cell? ⟨w.heap.size, 2, none⟩ = some c := box3 (Gr.refl _)
/- the box is not frozen -/
theorem box_free {w w1 : World} {c : Array Value} {t : TypeId} (hb : Gr (w.alloc (.cells c t)) w1) (o : Nat) : w1.frozen? ⟨w.heap.size, o, none⟩ = false := by
  rw [hb.frozen (by simp), frozen?_alloc_cells]; simp [World.frozen?]
/- a box of three cells, all of them set -/
theorem box_set3 {w : World} {b : Nat} {a0 a1 a2 : Value} (c0 : w.cell? ⟨b, 0, none⟩ = some a0) (c1 : w.cell? ⟨b, 1, none⟩ = some a1) (c2 : w.cell? ⟨b, 2, none⟩ = some a2) (x y z : Value) :
    (((w.setCell ⟨b, 0, none⟩ x).setCell ⟨b, 1, none⟩ y).setCell ⟨b, 2, none⟩ z).cell? ⟨b, 0, none⟩ = some x ∧ (((w.setCell ⟨b, 0, none⟩ x).setCell ⟨b, 1, none⟩ y).setCell ⟨b, 2, none⟩ z).cell? ⟨b, 1, none⟩ = some y ∧ (((w.setCell ⟨b, 0, none⟩ x).setCell ⟨b, 1, none⟩ y).setCell ⟨b, 2, none⟩ z).cell? ⟨b, 2, none⟩ = some z := by
  refine ⟨?_, ?_, ?_⟩
  · rw [World.cell?_setCell_other (h := by simp), World.cell?_setCell_other (h := by simp)]; exact World.cell?_setCell_same _ _ _ c0
  · rw [World.cell?_setCell_other (h := by simp)]; refine World.cell?_setCell_same _ _ _ (u := a1) ?_; rw [World.cell?_setCell_other (h := by simp)]; exact c1
  · refine World.cell?_setCell_same _ _ _ (u := a2) ?_; rw [World.cell?_setCell_other (h := by simp), World.cell?_setCell_other (h := by simp)]; exact c2
theorem gr_set3 {w w1 : World} {c : Array Value} {t : TypeId} (hb : Gr (w.alloc (.cells c t)) w1) (x y z : Value) :
    Gr w (((w1.setCell ⟨w.heap.size, 0, none⟩ x).setCell ⟨w.heap.size, 1, none⟩ y).setCell ⟨w.heap.size, 2, none⟩ z) :=
  ((((Gr.refl w).alloc c t).trans hb).setCell (Nat.le_refl _) x |>.setCell (Nat.le_refl _) y).setCell (Nat.le_refl _) z
/- a cell that lay in a box, behind steps that only make memory -/
theorem Gr.keeps {w w' : World} (h : Gr w w') {b o : Nat} {v : Value} (hb : b < w.heap.size) (hc : w.cell? ⟨b, o, none⟩ = some v) : w'.cell? ⟨b, o, none⟩ = some v := by
  rw [h.below.cell hb]; exact hc

theorem ret_bool {a b : Bool} (h : a = b) : Ending.returned (.bool a) = .returned (.bool b) := by rw [h]
theorem ret_int {k : IntKind} {a b : Int} (h : a = b) : Ending.returned (.int k a) = .returned (.int k b) := by rw [h]
end Go.Proofs.YtbfngdpdgmgfpaaDoor
namespace Go.Proofs.YtbfngdpdgmgfpaaDoor
namespace Fd
open Go.Lib

/- the width of what counts as one at the head of a text; nx: 0 where that is no code point -/
def wd (l : List UInt8) : Nat := (decodeL l).2
def nx (l : List UInt8) : Nat := if (decodeL l).1 = 65533 ∧ (decodeL l).2 = 1 then 0 else (decodeL l).2

theorem wd_pos (l : List UInt8) : 1 ≤ wd l := decodeL_width l
theorem decN_le (n b0 b1 b2 b3 : Nat) (hn : 1 ≤ n) : (decodeN n b0 b1 b2 b3).2 ≤ n ∧ (decodeN n b0 b1 b2 b3).2 ≤ 4 := by
  unfold decodeN
  repeat' split
  all_goals (simp only; omega)
theorem wd_le4 (l : List UInt8) : wd l ≤ 4 := by
  unfold wd decodeL; rw [decode_at]
  by_cases h : 1 ≤ (ByteArray.mk l.toArray).size - 0
  · exact (decN_le _ _ _ _ _ h).2
  · have : (ByteArray.mk l.toArray).size - 0 = 0 := by omega
    rw [this]
    unfold decodeN
    repeat' split
    all_goals (simp only; omega)
theorem wd_le (l : List UInt8) (h : l ≠ []) : wd l ≤ l.length := by
  have h1 := List.length_pos_iff.2 h
  have h2 : (ByteArray.mk l.toArray).size = l.length := by simp [ByteArray.size]
  unfold wd decodeL; rw [decode_at, h2]
  exact (decN_le _ _ _ _ _ (by omega)).1
theorem nx_max (l : List UInt8) : max 1 (nx l) = wd l := by
  have := wd_pos l
  unfold nx wd at *
  split
  · omega
  · omega
theorem nx_cases (l : List UInt8) : (nx l = 0 ∧ wd l = 1) ∨ (nx l = wd l) := by
  unfold nx wd
  split
  · rename_i h; exact .inl ⟨rfl, h.2⟩
  · exact .inr rfl

/- UTF-8, text by text -/
theorem validGo_fuel : ∀ (n m : Nat) (l : List UInt8), l.length ≤ n → l.length ≤ m → validGoD n l = validGoD m l := by
  intro n
  induction n with
  | zero =>
    intro m l h _
    have : l = [] := List.eq_nil_of_length_eq_zero (by omega)
    subst this
    cases m <;> simp [validGoD]
  | succ n ih =>
    intro m l h h'
    cases m with
    | zero =>
      have : l = [] := List.eq_nil_of_length_eq_zero (by omega)
      subst this
      simp [validGoD]
    | succ m =>
      simp only [validGoD]
      split
      · rfl
      · rename_i hl
        split
        · rfl
        · have h1 := decodeL_width l
          have h2 := List.length_pos_iff.2 hl
          exact ih m _ (by rw [List.length_drop]; omega) (by rw [List.length_drop]; omega)
theorem valid_nil : validD [] = true := rfl
theorem valid_step (l : List UInt8) (h : l ≠ []) : validD l = if nx l = 0 then false else validD (l.drop (nx l)) := by
  have h1 := decodeL_width l
  have h2 := List.length_pos_iff.2 h
  unfold validD nx
  rw [show l.length = (l.length - 1) + 1 by omega]
  simp only [validGoD, if_neg h]
  by_cases c : (decodeL l).1 = 65533 ∧ (decodeL l).2 = 1
  · simp [c]
  · rw [if_neg c, if_neg c, if_neg (by omega)]
    exact validGo_fuel _ _ _ (by rw [List.length_drop]; omega) (by rw [List.length_drop]; omega)

/- how many bytes of whole code points fit into a room -/
def fit (room : Nat) (l : List UInt8) : Nat :=
  if _h : l = [] then 0 else if room < wd l then 0 else wd l + fit (room - wd l) (l.drop (wd l))
  termination_by l.length
  decreasing_by
    have h1 := wd_pos l
    have h2 := List.length_pos_iff.2 _h
    simp only [List.length_drop]; omega
theorem fit_nil (room : Nat) : fit room [] = 0 := by rw [fit]; simp
theorem fit_small (room : Nat) (l : List UInt8) (h : room < wd l) : fit room l = 0 := by
  rw [fit]; split
  · rfl
  · rfl
theorem fit_step (room : Nat) (l : List UInt8) (h : l ≠ []) (h' : wd l ≤ room) : fit room l = wd l + fit (room - wd l) (l.drop (wd l)) := by
  rw [fit]; rw [dif_neg h, if_neg (by omega)]
theorem fit_le (room : Nat) (l : List UInt8) : fit room l ≤ l.length ∧ fit room l ≤ room := by
  generalize hn : l.length = n
  induction n using Nat.strongRecOn generalizing l room with
  | _ n ih =>
    by_cases h : l = []
    · subst h; rw [fit_nil]; omega
    · by_cases c : room < wd l
      · rw [fit_small _ _ c]; omega
      · rw [fit_step _ _ h (by omega)]
        have h1 := wd_pos l
        have h2 := wd_le l h
        have h3 := List.length_pos_iff.2 h
        have := ih (l.drop (wd l)).length (by rw [List.length_drop]; omega) (room - wd l) (l.drop (wd l)) rfl
        rw [List.length_drop] at this
        omega
theorem fit_pos (room : Nat) (l : List UInt8) (h : l ≠ []) (hr : 4 ≤ room) : 1 ≤ fit room l := by
  have := wd_le4 l
  have h1 := wd_pos l
  rw [fit_step _ _ h (by omega)]; omega

/- a line folded, from a width on, without its last end -/
def rf (w : Nat) (l : List UInt8) : List UInt8 :=
  if _h : l = [] then [] else if 75 < w + wd l then 13 :: 10 :: 32 :: (l.take (wd l) ++ rf (1 + wd l) (l.drop (wd l))) else l.take (wd l) ++ rf (w + wd l) (l.drop (wd l))
  termination_by l.length
  decreasing_by
    all_goals (have h1 := wd_pos l; have h2 := List.length_pos_iff.2 _h; simp only [List.length_drop]; omega)
theorem rf_nil (w : Nat) : rf w [] = [] := by rw [rf]; simp
theorem rf_new (w : Nat) (l : List UInt8) (h : l ≠ []) (c : 75 < w + wd l) : rf w l = 13 :: 10 :: 32 :: (l.take (wd l) ++ rf (1 + wd l) (l.drop (wd l))) := by
  rw [rf, dif_neg h, if_pos c]
theorem rf_same (w : Nat) (l : List UInt8) (h : l ≠ []) (c : w + wd l ≤ 75) : rf w l = l.take (wd l) ++ rf (w + wd l) (l.drop (wd l)) := by
  rw [rf, dif_neg h, if_neg (by omega)]
theorem rf_new_eq (w : Nat) (l : List UInt8) (h : l ≠ []) (c : 75 < w + wd l) : rf w l = 13 :: 10 :: 32 :: rf 1 l := by
  have := wd_le4 l
  rw [rf_new w l h c, rf_same 1 l h (by omega)]
theorem rf_len (w : Nat) (l : List UInt8) : (rf w l).length ≤ 4 * l.length := by
  generalize hn : l.length = n
  induction n using Nat.strongRecOn generalizing l w with
  | _ n ih =>
    by_cases h : l = []
    · subst h; rw [rf_nil]; simp
    · have h1 := wd_pos l
      have h2 := wd_le l h
      have h3 := List.length_pos_iff.2 h
      have i := fun w' => ih (l.drop (wd l)).length (by rw [List.length_drop]; omega) w' (l.drop (wd l)) rfl
      have i1 := i (1 + wd l)
      have i2 := i (w + wd l)
      simp only [List.length_drop] at i1 i2
      by_cases c : 75 < w + wd l
      · rw [rf_new w l h c]
        simp only [List.length_cons, List.length_append, List.length_take]; omega
      · rw [rf_same w l h (by omega)]
        simp only [List.length_append, List.length_take]; omega

/- what stands behind the first n bytes of a piece's line -/
def rest (l : List UInt8) (n : Nat) : List UInt8 := if n < l.length then 13 :: 10 :: 32 :: rf 1 (l.drop n) else []
theorem rf_fit (w : Nat) (l : List UInt8) (hw : w ≤ 75) : rf w l = l.take (fit (75 - w) l) ++ rest l (fit (75 - w) l) := by
  generalize hn : l.length = n
  induction n using Nat.strongRecOn generalizing l w with
  | _ n ih =>
    by_cases h : l = []
    · subst h; rw [rf_nil, fit_nil]; simp [rest]
    · have h1 := wd_pos l
      have h2 := wd_le l h
      have h3 := List.length_pos_iff.2 h
      by_cases c : 75 < w + wd l
      · rw [fit_small _ _ (by omega), rf_new_eq w l h c]
        simp [rest, h3]
      · rw [fit_step _ _ h (by omega), rf_same w l h (by omega), ih (l.drop (wd l)).length (by rw [List.length_drop]; omega) (w + wd l) (l.drop (wd l)) (by omega) rfl,
          show 75 - (w + wd l) = 75 - w - wd l by omega, ← List.append_assoc, ← List.take_add]
        congr 1
        unfold rest
        simp only [List.length_drop, List.drop_drop]
        by_cases d : fit (75 - w - wd l) (l.drop (wd l)) < l.length - wd l
        · rw [if_pos d, if_pos (by omega)]
        · rw [if_neg d, if_neg (by omega)]
theorem rest_step (l : List UInt8) (n : Nat) (h : n < l.length) : rest l n = 13 :: 10 :: 32 :: ((l.drop n).take (fit 74 (l.drop n)) ++ rest (l.drop n) (fit 74 (l.drop n))) := by
  rw [rest, if_pos h, rf_fit 1 (l.drop n) (by omega)]
theorem rest_end (l : List UInt8) (n : Nat) (h : ¬ n < l.length) : rest l n = [] := by rw [rest, if_neg h]

/- all lines folded -/
def line (l : List UInt8) : List UInt8 := rf 0 l ++ [13, 10]
def all (ls : List (List UInt8)) : List UInt8 := ls.flatMap line
theorem line_eq (l : List UInt8) : line l = l.take (fit 75 l) ++ rest l (fit 75 l) ++ [13, 10] := by rw [line, rf_fit 0 l (by omega)]
theorem line_len (l : List UInt8) : (line l).length ≤ 4 * l.length + 2 := by
  have := rf_len 0 l
  simp only [line, List.length_append, List.length_cons, List.length_nil]; omega
theorem all_snoc (ls : List (List UInt8)) (l : List UInt8) : all (ls ++ [l]) = all ls ++ line l := by simp [all]
theorem all_take_succ (ls : List (List UInt8)) (k : Nat) (h : k < ls.length) : all (ls.take (k + 1)) = all (ls.take k) ++ line ls[k] := by
  rw [List.take_succ_eq_append_getElem h, all_snoc]
theorem all_mono (ls : List (List UInt8)) (k : Nat) : (all (ls.take k)).length ≤ (all ls).length := by
  have e : all ls = all (ls.take k) ++ all (ls.drop k) := by unfold all; rw [← List.flatMap_append, List.take_append_drop]
  rw [e, List.length_append]; omega

/- which lines may be folded -/
def ct (p : List UInt8) : Bool := p.head? == some 32 || p.head? == some 9
def fine (l : List UInt8) : Bool := !l.isEmpty && !ct l && l.all fun b => b != 13 && b != 10
/- what Fold answers: an error's number (0: none) and a text -/
def long (ls : List (List UInt8)) : Bool := ls.any (fun l => decide (2000 < l.length)) || decide (20000 < (all ls).length)
def foldE (ls : List (List UInt8)) : Int := if ls.all fine = false then 5 else if long ls then 4 else 0
def foldT (ls : List (List UInt8)) : List UInt8 := if foldE ls = 0 then all ls else []
theorem long_take (ls : List (List UInt8)) (k : Nat) (h : long (ls.take k) = true) : long ls = true := by
  unfold long at *
  rw [Bool.or_eq_true] at *
  rcases h with h | h
  · left
    rw [List.any_eq_true] at *
    obtain ⟨x, hx, h⟩ := h
    exact ⟨x, List.mem_of_mem_take hx, h⟩
  · right
    have := all_mono ls k
    simp only [decide_eq_true_eq] at *
    omega
theorem long_succ (ls : List (List UInt8)) (k : Nat) (h : k < ls.length) (h0 : long (ls.take k) = false) :
    long (ls.take (k + 1)) = (decide (2000 < ls[k].length) || decide (20000 < (all (ls.take (k + 1))).length)) := by
  unfold long at *
  rw [Bool.or_eq_false_iff] at h0
  rw [List.take_succ_eq_append_getElem h, List.any_append, h0.1]
  simp

/- the width of what is written, byte by byte -/
def wok : Nat → List UInt8 → Bool
  | _, [] => true
  | w, b :: r => (decide ((if b = 10 then 0 else w + 1) < 76) || (decide ((if b = 10 then 0 else w + 1) = 76) && b == 13)) && wok (if b = 10 then 0 else w + 1) r
theorem wok_clean : ∀ (c r : List UInt8) (w : Nat), (c.all fun b => b != 13 && b != 10) = true → w + c.length ≤ 75 → wok w (c ++ r) = wok (w + c.length) r
  | [], r, w, _, _ => by simp
  | b :: c, r, w, h, hw => by
    simp only [List.all_cons, Bool.and_eq_true, bne_iff_ne, ne_eq] at h
    simp only [List.length_cons] at hw
    have i := wok_clean c r (w + 1) (by simpa using h.2) (by omega)
    simp only [List.cons_append, wok, if_neg h.1.2]
    rw [i, show w + (b :: c).length = w + 1 + c.length by simp; omega]
    have : decide (w + 1 < 76) = true := by simp; omega
    simp [this]
theorem wok_end (r : List UInt8) (w : Nat) (hw : w ≤ 75) : wok w (13 :: 10 :: r) = wok 0 r := by
  simp only [wok]
  have h1 : ¬ (13 : UInt8) = 10 := by decide
  rw [if_neg h1]
  rcases Nat.lt_or_ge (w + 1) 76 with h | h
  · simp [h]
  · have : w + 1 = 76 := by omega
    simp [this]
theorem wok_new (r : List UInt8) (w : Nat) (hw : w ≤ 75) : wok w (13 :: 10 :: 32 :: r) = wok 1 r := by
  rw [wok_end _ w hw]
  simp only [wok]
  have h1 : ¬ (32 : UInt8) = 10 := by decide
  rw [if_neg h1]; simp
theorem wok_rf (w : Nat) (l r : List UInt8) (hw : w ≤ 75) (h : (l.all fun b => b != 13 && b != 10) = true) : wok w (rf w l ++ 13 :: 10 :: r) = wok 0 r := by
  generalize hn : l.length = n
  induction n using Nat.strongRecOn generalizing l w with
  | _ n ih =>
    by_cases hl : l = []
    · subst hl; rw [rf_nil]; exact wok_end r w hw
    · have h1 := wd_pos l
      have h2 := wd_le l hl
      have h4 := wd_le4 l
      have h3 := List.length_pos_iff.2 hl
      have ht : ((l.take (wd l)).all fun b => b != 13 && b != 10) = true := by
        rw [List.all_eq_true] at h ⊢; exact fun x hx => h x (List.mem_of_mem_take hx)
      have hd : ((l.drop (wd l)).all fun b => b != 13 && b != 10) = true := by
        rw [List.all_eq_true] at h ⊢; exact fun x hx => h x (List.mem_of_mem_drop hx)
      have i := fun w' (hw' : w' ≤ 75) => ih (l.drop (wd l)).length (by rw [List.length_drop]; omega) w' (l.drop (wd l)) hw' hd rfl
      have el : (l.take (wd l)).length = wd l := by rw [List.length_take]; omega
      by_cases c : 75 < w + wd l
      · rw [rf_new w l hl c]
        simp only [List.cons_append, List.append_assoc]
        rw [wok_new _ w hw, wok_clean _ _ 1 ht (by omega), el]
        exact i (1 + wd l) (by omega)
      · rw [rf_same w l hl (by omega), List.append_assoc, wok_clean _ _ w ht (by omega), el]
        exact i (w + wd l) (by omega)
theorem fine_clean {l : List UInt8} (h : fine l = true) : (l.all fun b => b != 13 && b != 10) = true := by
  unfold fine at h; rw [Bool.and_eq_true] at h; exact h.2
theorem wok_all (ls : List (List UInt8)) (h : ls.all fine = true) : wok 0 (all ls) = true := by
  induction ls with
  | nil => rfl
  | cons l ls ih =>
    simp only [List.all_cons, Bool.and_eq_true] at h
    have e : all (l :: ls) = rf 0 l ++ 13 :: 10 :: all ls := by simp [all, line]
    rw [e, wok_rf 0 l _ (by omega) (fine_clean h.1)]
    exact ih h.2
end Fd
end Go.Proofs.YtbfngdpdgmgfpaaDoor
namespace Go.Proofs.YtbfngdpdgmgfpaaDoor
namespace Fd
open Go.Lib

/- up to the first LF, from it on, and without a CR at the end -/
def bl (s : List UInt8) : List UInt8 := s.takeWhile (· != 10)
def al (s : List UInt8) : List UInt8 := s.dropWhile (· != 10)
def tc (p : List UInt8) : List UInt8 := if p.getLast? = some 13 then p.dropLast else p
def badp (s : List UInt8) : Bool := (al s).isEmpty || (tc (bl s)).isEmpty || (tc (bl s)).contains 13
theorem al_len (s : List UInt8) (h : s ≠ []) : (al s).tail.length < s.length := by
  have h1 : (al s).length ≤ s.length := (List.dropWhile_suffix _).length_le
  have h2 := List.length_pos_iff.2 h
  rw [List.length_tail]; omega
/- the pieces of a text: (0, pieces), or the number of the first bad one -/
def sp (n : Nat) (s : List UInt8) : Nat × List (List UInt8) :=
  if _h : s = [] then (0, []) else if badp s || (decide (n = 0) && ct (tc (bl s))) then (n + 1, [])
  else if (sp (n + 1) (al s).tail).1 = 0 then (0, tc (bl s) :: (sp (n + 1) (al s).tail).2) else ((sp (n + 1) (al s).tail).1, [])
  termination_by s.length
  decreasing_by all_goals exact al_len s _h
theorem sp_nil (n : Nat) : sp n [] = (0, []) := by rw [sp]; simp
theorem sp_bad (n : Nat) (s : List UInt8) (h : s ≠ []) (b : (badp s || (decide (n = 0) && ct (tc (bl s)))) = true) : sp n s = (n + 1, []) := by
  rw [sp, dif_neg h, if_pos b]
theorem sp_good (n : Nat) (s : List UInt8) (h : s ≠ []) (b : (badp s || (decide (n = 0) && ct (tc (bl s)))) = false) :
    sp n s = if (sp (n + 1) (al s).tail).1 = 0 then (0, tc (bl s) :: (sp (n + 1) (al s).tail).2) else ((sp (n + 1) (al s).tail).1, []) := by
  rw [sp, dif_neg h, if_neg (by simp [b])]
def cmb (ps : List (List UInt8)) (r : Nat × List (List UInt8)) : Nat × List (List UInt8) := if r.1 = 0 then (0, ps ++ r.2) else (r.1, [])
theorem cmb_nil (r : Nat × List (List UInt8)) (h : r.1 ≠ 0 → r.2 = []) : cmb [] r = r := by
  obtain ⟨a, b⟩ := r
  unfold cmb
  by_cases c : a = 0
  · simp [c]
  · have := h c; simp at this; simp [c, this]
theorem sp_err (n : Nat) (s : List UInt8) : (sp n s).1 ≠ 0 → (sp n s).2 = [] := by
  by_cases h : s = []
  · subst h; rw [sp_nil]; simp
  · by_cases b : (badp s || (decide (n = 0) && ct (tc (bl s)))) = true
    · rw [sp_bad n s h b]; simp
    · rw [sp_good n s h (by simpa using b)]
      split <;> simp
theorem cmb_end (ps : List (List UInt8)) (n : Nat) : cmb ps (sp n []) = (0, ps) := by rw [sp_nil]; simp [cmb]
theorem cmb_bad (ps : List (List UInt8)) (n : Nat) (s : List UInt8) (h : s ≠ []) (b : (badp s || (decide (n = 0) && ct (tc (bl s)))) = true) : cmb ps (sp n s) = (n + 1, []) := by
  rw [sp_bad n s h b]; simp [cmb]
theorem cmb_good (ps : List (List UInt8)) (n : Nat) (s : List UInt8) (h : s ≠ []) (b : (badp s || (decide (n = 0) && ct (tc (bl s)))) = false) :
    cmb ps (sp n s) = cmb (ps ++ [tc (bl s)]) (sp (n + 1) (al s).tail) := by
  rw [sp_good n s h b]
  unfold cmb
  by_cases c : (sp (n + 1) (al s).tail).1 = 0
  · simp [c]
  · rw [if_neg c]; simp [c]
theorem sp_len (n : Nat) (s : List UInt8) : (sp n s).2.length ≤ s.length ∧ (sp n s).1 ≤ n + s.length := by
  generalize hn : s.length = m
  induction m using Nat.strongRecOn generalizing s n with
  | _ m ih =>
    by_cases h : s = []
    · subst h; rw [sp_nil]; simp
    · have h1 := al_len s h
      have h2 := List.length_pos_iff.2 h
      by_cases b : (badp s || (decide (n = 0) && ct (tc (bl s)))) = true
      · rw [sp_bad n s h b]; simp; omega
      · rw [sp_good n s h (by simpa using b)]
        have i := ih (al s).tail.length (by omega) (n + 1) (al s).tail rfl
        split
        · simp only [List.length_cons]; omega
        · simp only [List.length_nil]; omega

/- lines and the numbers of their first pieces -/
def addLast (acc : List (List UInt8 × Nat)) (t : List UInt8) : List (List UInt8 × Nat) :=
  match acc.getLast? with
  | none => []
  | some x => acc.dropLast ++ [(x.1 ++ t, x.2)]
def gst (acc : List (List UInt8 × Nat)) (n : Nat) (p : List UInt8) : List (List UInt8 × Nat) := if ct p then addLast acc p.tail else acc ++ [(p, n + 1)]
def gs : List (List UInt8 × Nat) → Nat → List (List UInt8) → List (List UInt8 × Nat)
  | acc, _, [] => acc
  | acc, n, p :: ps => gs (gst acc n p) (n + 1) ps
theorem gs_append : ∀ (xs ys : List (List UInt8)) (acc : List (List UInt8 × Nat)) (n : Nat), gs acc n (xs ++ ys) = gs (gs acc n xs) (n + xs.length) ys
  | [], ys, acc, n => by simp [gs]
  | x :: xs, ys, acc, n => by
    simp only [List.cons_append, gs, List.length_cons]
    rw [gs_append xs ys, show n + 1 + xs.length = n + (xs.length + 1) by omega]
theorem gs_snoc (xs : List (List UInt8)) (p : List UInt8) (acc : List (List UInt8 × Nat)) (n : Nat) : gs acc n (xs ++ [p]) = gst (gs acc n xs) (n + xs.length) p := by
  rw [gs_append]; rfl
theorem addLast_snoc (acc : List (List UInt8 × Nat)) (x : List UInt8 × Nat) (t : List UInt8) : addLast (acc ++ [x]) t = acc ++ [(x.1 ++ t, x.2)] := by
  unfold addLast; simp
theorem gs_conts : ∀ (cs : List (List UInt8)) (acc : List (List UInt8 × Nat)) (l : List UInt8) (k n : Nat), cs.all ct = true → gs (acc ++ [(l, k)]) n cs = acc ++ [(l ++ cs.flatMap List.tail, k)]
  | [], acc, l, k, n, _ => by simp [gs]
  | c :: cs, acc, l, k, n, h => by
    simp only [List.all_cons, Bool.and_eq_true] at h
    simp only [gs, gst, h.1, if_true]
    rw [addLast_snoc, gs_conts cs acc _ k (n + 1) h.2]
    simp
theorem gs_line (p : List UInt8) (cs : List (List UInt8)) (acc : List (List UInt8 × Nat)) (n : Nat) (hp : ct p = false) (h : cs.all ct = true) : gs acc n (p :: cs) = acc ++ [(p ++ cs.flatMap List.tail, n + 1)] := by
  simp only [gs, gst, hp]
  exact gs_conts cs acc p (n + 1) (n + 1) h
theorem addLast_far (acc x : List (List UInt8 × Nat)) (t : List UInt8) (h : x ≠ []) : addLast (acc ++ x) t = acc ++ addLast x t := by
  obtain ⟨y, z, rfl⟩ : ∃ y z, x = y ++ [z] := ⟨x.dropLast, x.getLast h, (List.dropLast_concat_getLast h).symm⟩
  rw [← List.append_assoc, addLast_snoc, addLast_snoc, List.append_assoc]
theorem addLast_ne (x : List (List UInt8 × Nat)) (t : List UInt8) (h : x ≠ []) : addLast x t ≠ [] := by
  obtain ⟨y, z, rfl⟩ : ∃ y z, x = y ++ [z] := ⟨x.dropLast, x.getLast h, (List.dropLast_concat_getLast h).symm⟩
  rw [addLast_snoc]; simp
theorem gst_ne (x : List (List UInt8 × Nat)) (n : Nat) (p : List UInt8) (h : x ≠ []) : gst x n p ≠ [] := by
  unfold gst; split
  · exact addLast_ne _ _ h
  · simp
theorem gst_far (acc x : List (List UInt8 × Nat)) (n : Nat) (p : List UInt8) (h : x ≠ []) : gst (acc ++ x) n p = acc ++ gst x n p := by
  unfold gst; split
  · exact addLast_far _ _ _ h
  · simp
theorem gs_far : ∀ (ps : List (List UInt8)) (acc x : List (List UInt8 × Nat)) (n : Nat), x ≠ [] → gs (acc ++ x) n ps = acc ++ gs x n ps
  | [], _, _, _, _ => rfl
  | p :: ps, acc, x, n, h => by
    simp only [gs]
    rw [gst_far _ _ _ _ h, gs_far ps acc _ _ (gst_ne _ _ _ h)]
theorem gs_more (ps : List (List UInt8)) (acc : List (List UInt8 × Nat)) (n : Nat) (h : ∀ p, ps.head? = some p → ct p = false) : ∃ r, gs acc n ps = acc ++ r := by
  cases ps with
  | nil => exact ⟨[], by simp [gs]⟩
  | cons p ps =>
    have hp := h p rfl
    simp only [gs, gst, hp]
    exact ⟨_, gs_far ps acc _ _ (by simp)⟩
theorem gs_ne (ps : List (List UInt8)) (acc : List (List UInt8 × Nat)) (n : Nat) (h : acc ≠ []) : gs acc n ps ≠ [] := by
  induction ps generalizing acc n with
  | nil => exact h
  | cons p ps ih => exact ih _ _ (gst_ne _ _ _ h)
/- the first line with an error -/
def chk : List (List UInt8 × Nat) → Option (Nat × Int)
  | [] => none
  | (l, k) :: r => if validD l = false then some (k, 3) else if 2000 < l.length then some (k, 4) else chk r
theorem chk_append (a b : List (List UInt8 × Nat)) (h : chk a = none) : chk (a ++ b) = chk b := by
  induction a with
  | nil => rfl
  | cons x a ih =>
    obtain ⟨l, k⟩ := x
    simp only [List.cons_append, chk] at h ⊢
    split
    · rename_i c; simp [c] at h
    · rename_i c
      rw [if_neg c] at h
      split
      · rename_i d; simp [d] at h
      · rename_i d; rw [if_neg d] at h; exact ih h
theorem chk_err (a b : List (List UInt8 × Nat)) (x : Nat × Int) (h : chk a = some x) : chk (a ++ b) = some x := by
  induction a with
  | nil => cases h
  | cons y a ih =>
    obtain ⟨l, k⟩ := y
    simp only [List.cons_append, chk] at h ⊢
    split
    · rename_i c; rw [if_pos c] at h; exact h
    · rename_i c
      rw [if_neg c] at h
      split
      · rename_i d; rw [if_pos d] at h; exact h
      · rename_i d; rw [if_neg d] at h; exact ih h
theorem chk_one (l : List UInt8) (k : Nat) : chk [(l, k)] = if validD l = false then some (k, 3) else if 2000 < l.length then some (k, 4) else none := by simp [chk]
theorem chk_none (a : List (List UInt8 × Nat)) (h : ∀ l ∈ a.map Prod.fst, validD l = true ∧ l.length ≤ 2000) : chk a = none := by
  induction a with
  | nil => rfl
  | cons x a ih =>
    obtain ⟨l, k⟩ := x
    simp only [List.map_cons, List.mem_cons, forall_eq_or_imp] at h
    simp only [chk]
    rw [if_neg (by simp [h.1.1]), if_neg (by omega)]
    exact ih h.2
/- what Unfold answers -/
def unf (s : List UInt8) : List (List UInt8) × Nat × Int :=
  if 20000 < s.length then ([], 0, 4) else if (sp 0 s).1 ≠ 0 then ([], (sp 0 s).1, 5) else
    match chk (gs [] 0 (sp 0 s).2) with
    | some x => ([], x.1, x.2)
    | none => ((gs [] 0 (sp 0 s).2).map Prod.fst, 0, 0)
theorem unf_long (s : List UInt8) (h : 20000 < s.length) : unf s = ([], 0, 4) := by unfold unf; rw [if_pos h]
theorem unf_bad (s : List UInt8) (h : ¬ 20000 < s.length) (k : Nat) (e : sp 0 s = (k, [])) (hk : k ≠ 0) : unf s = ([], k, 5) := by unfold unf; rw [if_neg h, e]; simp [hk]
theorem unf_err (s : List UInt8) (h : ¬ 20000 < s.length) (ps : List (List UInt8)) (e : sp 0 s = (0, ps)) (x : Nat × Int) (c : chk (gs [] 0 ps) = some x) : unf s = ([], x.1, x.2) := by
  unfold unf; rw [if_neg h, e]; simp [c]
theorem unf_ok (s : List UInt8) (h : ¬ 20000 < s.length) (ps : List (List UInt8)) (e : sp 0 s = (0, ps)) (c : chk (gs [] 0 ps) = none) : unf s = ((gs [] 0 ps).map Prod.fst, 0, 0) := by
  unfold unf; rw [if_neg h, e]; simp [c]

/- a text of pieces, each with its end -/
def txt (e : List UInt8) (ps : List (List UInt8)) : List UInt8 := ps.flatMap (· ++ e)
def clean (p : List UInt8) : Prop := p ≠ [] ∧ 13 ∉ p ∧ 10 ∉ p
theorem bl_piece (p r : List UInt8) (h : 10 ∉ p) : bl (p ++ 10 :: r) = p ∧ al (p ++ 10 :: r) = 10 :: r := by
  unfold bl al
  have h1 : ∀ a ∈ p, (a != 10) = true := by
    intro a ha; simp only [bne_iff_ne, ne_eq]; intro e; subst e; exact h ha
  rw [List.takeWhile_append_of_pos h1, List.dropWhile_append_of_pos h1]
  simp
theorem tc_crlf (p : List UInt8) : tc (p ++ [13]) = p := by unfold tc; simp
theorem tc_lf (p : List UInt8) (h : 13 ∉ p) : tc p = p := by
  unfold tc
  rw [if_neg]
  intro e
  exact h (List.mem_of_getLast? e)
theorem sp_txt (e : List UInt8) (he : e = [10] ∨ e = [13, 10]) : ∀ (ps : List (List UInt8)) (n : Nat), (∀ p ∈ ps, clean p) → (n = 0 → ∀ p, ps.head? = some p → ct p = false) → sp n (txt e ps) = (0, ps)
  | [], n, _, _ => by simp [txt, sp_nil]
  | p :: ps, n, h, h0 => by
    have hp := h p (by simp)
    have et : txt e (p :: ps) = p ++ e ++ txt e ps := by simp [txt]
    have hne : txt e (p :: ps) ≠ [] := by rw [et]; simp [hp.1]
    have key : tc (bl (txt e (p :: ps))) = p ∧ al (txt e (p :: ps)) = 10 :: txt e ps := by
      rw [et]
      rcases he with rfl | rfl
      · have := bl_piece p (txt [10] ps) hp.2.2
        rw [show p ++ [10] ++ txt [10] ps = p ++ 10 :: txt [10] ps by simp, this.1, this.2]
        exact ⟨tc_lf p hp.2.1, rfl⟩
      · have := bl_piece (p ++ [13]) (txt [13, 10] ps) (by simp [hp.2.2])
        rw [show p ++ [13, 10] ++ txt [13, 10] ps = (p ++ [13]) ++ 10 :: txt [13, 10] ps by simp, this.1, this.2]
        exact ⟨tc_crlf p, rfl⟩
    have hb : (badp (txt e (p :: ps)) || (decide (n = 0) && ct (tc (bl (txt e (p :: ps)))))) = false := by
      unfold badp
      rw [key.1, key.2]
      by_cases c : n = 0
      · simp [hp.1, hp.2.1, h0 c p rfl]
      · simp [hp.1, hp.2.1, c]
    rw [sp_good n _ hne hb, key.1, key.2, List.tail_cons, sp_txt e he ps (n + 1) (fun q hq => h q (by simp [hq])) (fun c => by omega)]
    simp
theorem txt_append (e : List UInt8) (a b : List (List UInt8)) : txt e (a ++ b) = txt e a ++ txt e b := by simp [txt]

/- a line cut at any places -/
theorem unf_cut (e : List UInt8) (he : e = [10] ∨ e = [13, 10]) (by_ : UInt8) (hb : by_ = 32 ∨ by_ = 9) (c0 : List UInt8) (cs : List (List UInt8)) (hc : c0 ≠ []) (h0 : ct c0 = false)
    (hl : ∀ b ∈ c0 ++ cs.flatten, b ≠ 13 ∧ b ≠ 10) (hv : validD (c0 ++ cs.flatten) = true) (h2 : (c0 ++ cs.flatten).length ≤ 2000) (ht : (txt e (c0 :: cs.map (by_ :: ·))).length ≤ 20000) :
    unf (txt e (c0 :: cs.map (by_ :: ·))) = ([c0 ++ cs.flatten], 0, 0) := by
  have hps : ∀ p ∈ c0 :: cs.map (by_ :: ·), clean p := by
    intro p hp
    rcases List.mem_cons.1 hp with rfl | hp
    · exact ⟨hc, fun h => (hl 13 (by simp [h])).1 rfl, fun h => (hl 10 (by simp [h])).2 rfl⟩
    · obtain ⟨c, hm, rfl⟩ := List.mem_map.1 hp
      have hm' : ∀ b ∈ c, b ∈ c0 ++ cs.flatten := fun b hb => by
        simp only [List.mem_append, List.mem_flatten]; exact .inr ⟨c, hm, hb⟩
      refine ⟨by simp, ?_, ?_⟩
      · intro h
        rcases List.mem_cons.1 h with h | h
        · rcases hb with rfl | rfl <;> cases h
        · exact (hl 13 (hm' _ h)).1 rfl
      · intro h
        rcases List.mem_cons.1 h with h | h
        · rcases hb with rfl | rfl <;> cases h
        · exact (hl 10 (hm' _ h)).2 rfl
  have hsp := sp_txt e he (c0 :: cs.map (by_ :: ·)) 0 hps (fun _ p hp => by cases hp; exact h0)
  have hct : (cs.map (by_ :: ·)).all ct = true := by
    rw [List.all_map, List.all_eq_true]
    intro c _
    rcases hb with rfl | rfl <;> simp [ct]
  have hg := gs_line c0 (cs.map (by_ :: ·)) [] 0 h0 hct
  have hf : (cs.map (by_ :: ·)).flatMap List.tail = cs.flatten := by
    rw [List.flatMap_map]; simp [List.flatMap_def]
  rw [hf] at hg
  rw [unf_ok _ (by omega) _ hsp (chk_none _ (by rw [hg]; simp only [List.nil_append, List.map_cons, List.map_nil, List.mem_singleton]; rintro l rfl; exact ⟨hv, h2⟩)), hg]
  simp

/- folded lines, piece by piece -/
theorem rf_chunks (w : Nat) (l : List UInt8) (hw : w ≤ 75) : ∃ (c0 : List UInt8) (cs : List (List UInt8)), rf w l ++ [13, 10] = txt [13, 10] (c0 :: cs.map (32 :: ·)) ∧ c0 ++ cs.flatten = l ∧ (l ≠ [] → w + wd l ≤ 75 → c0 ≠ []) := by
  generalize hn : l.length = n
  induction n using Nat.strongRecOn generalizing l w with
  | _ n ih =>
    by_cases h : l = []
    · subst h; exact ⟨[], [], by rw [rf_nil]; simp [txt], rfl, fun h => absurd rfl h⟩
    · have h1 := wd_pos l
      have h2 := wd_le l h
      have h4 := wd_le4 l
      have h3 := List.length_pos_iff.2 h
      have i := fun w' (hw' : w' ≤ 75) => ih (l.drop (wd l)).length (by rw [List.length_drop]; omega) w' (l.drop (wd l)) hw' rfl
      have et := List.take_append_drop (wd l) l
      by_cases c : 75 < w + wd l
      · obtain ⟨c0, cs, e1, e2, _⟩ := i (1 + wd l) (by omega)
        refine ⟨[], (l.take (wd l) ++ c0) :: cs, ?_, ?_, fun _ h => by omega⟩
        · rw [rf_new w l h c]
          simp only [txt, List.flatMap_cons, List.map_cons, List.cons_append, List.nil_append, List.append_assoc] at e1 ⊢
          rw [e1]
        · simp only [List.nil_append, List.flatten_cons, List.append_assoc]
          rw [e2]; exact et
      · obtain ⟨c0, cs, e1, e2, _⟩ := i (w + wd l) (by omega)
        refine ⟨l.take (wd l) ++ c0, cs, ?_, ?_, fun _ _ => ?_⟩
        · rw [rf_same w l h (by omega)]
          simp only [txt, List.flatMap_cons, List.append_assoc] at e1 ⊢
          rw [e1]
        · rw [List.append_assoc, e2]; exact et
        · intro hc
          have := congrArg List.length hc
          rw [List.length_append, List.length_take, List.length_nil] at this
          omega
theorem fine_parts {l : List UInt8} (h : fine l = true) : l ≠ [] ∧ ct l = false ∧ ∀ b ∈ l, b ≠ 13 ∧ b ≠ 10 := by
  unfold fine at h
  simp only [Bool.and_eq_true, Bool.not_eq_true', List.isEmpty_eq_false_iff, List.all_eq_true, bne_iff_ne, ne_eq] at h
  exact ⟨h.1.1, h.1.2, h.2⟩
theorem all_pieces (ls : List (List UInt8)) (h : ls.all fine = true) :
    ∃ ps, all ls = txt [13, 10] ps ∧ (∀ p ∈ ps, clean p) ∧ (∀ p, ps.head? = some p → ct p = false) ∧ ∀ acc n, (gs acc n ps).map Prod.fst = acc.map Prod.fst ++ ls := by
  induction ls with
  | nil => exact ⟨[], rfl, by simp, by simp, by simp [gs]⟩
  | cons l ls ih =>
    simp only [List.all_cons, Bool.and_eq_true] at h
    obtain ⟨ps, e1, e2, _, e4⟩ := ih h.2
    obtain ⟨hne, hct, hcl⟩ := fine_parts h.1
    obtain ⟨c0, cs, f1, f2, f3⟩ := rf_chunks 0 l (by omega)
    have hc0 := f3 hne (by have := wd_le4 l; omega)
    have hcc : ct c0 = false := by
      rw [← f2] at hct
      cases c0 with
      | nil => exact absurd rfl hc0
      | cons x c0 => simpa [ct] using hct
    have hmem : ∀ b ∈ c0 ++ cs.flatten, b ≠ 13 ∧ b ≠ 10 := by rw [f2]; exact hcl
    refine ⟨(c0 :: cs.map (32 :: ·)) ++ ps, ?_, ?_, ?_, ?_⟩
    · rw [txt_append, ← e1, ← f1]; simp [all, line]
    · intro p hp
      rcases List.mem_append.1 hp with hp | hp
      · rcases List.mem_cons.1 hp with rfl | hp
        · exact ⟨hc0, fun h => (hmem 13 (by simp [h])).1 rfl, fun h => (hmem 10 (by simp [h])).2 rfl⟩
        · obtain ⟨c, hm, rfl⟩ := List.mem_map.1 hp
          have hm' : ∀ b ∈ c, b ∈ c0 ++ cs.flatten := fun b hb => by
            simp only [List.mem_append, List.mem_flatten]; exact .inr ⟨c, hm, hb⟩
          refine ⟨by simp, ?_, ?_⟩
          · intro h
            rcases List.mem_cons.1 h with h | h
            · cases h
            · exact (hmem 13 (hm' _ h)).1 rfl
          · intro h
            rcases List.mem_cons.1 h with h | h
            · cases h
            · exact (hmem 10 (hm' _ h)).2 rfl
      · exact e2 p hp
    · intro p hp
      cases hp; exact hcc
    · intro acc n
      have hcta : (cs.map ((32 : UInt8) :: ·)).all ct = true := by
        rw [List.all_map, List.all_eq_true]; intro c _; simp [ct]
      have hf : (cs.map ((32 : UInt8) :: ·)).flatMap List.tail = cs.flatten := by
        rw [List.flatMap_map]; simp [List.flatMap_def]
      rw [gs_append, e4, gs_line c0 _ acc n hcc hcta, hf, f2]
      simp
theorem unf_all (ls : List (List UInt8)) (h : foldE ls = 0) (hv : ∀ l ∈ ls, validD l = true) : unf (all ls) = (ls, 0, 0) := by
  unfold foldE at h
  have hf : ls.all fine = true := by
    by_cases c : ls.all fine = false
    · rw [if_pos c] at h; cases h
    · simpa using c
  rw [if_neg (by simp [hf])] at h
  have hl : long ls = false := by
    by_cases c : long ls = true
    · rw [if_pos c] at h; cases h
    · simpa using c
  unfold long at hl
  rw [Bool.or_eq_false_iff] at hl
  obtain ⟨ps, e1, e2, e3, e4⟩ := all_pieces ls hf
  have hs := sp_txt [13, 10] (.inr rfl) ps 0 e2 (fun _ => e3)
  have h4 := e4 [] 0
  simp only [List.map_nil, List.nil_append] at h4
  have hlen : ¬ 20000 < (all ls).length := by simpa using hl.2
  have hshort : ∀ l ∈ ls, l.length ≤ 2000 := by
    intro l hm
    have := List.any_eq_false.1 hl.1 l hm
    simpa using this
  rw [← e1] at hs
  rw [unf_ok _ hlen ps hs (chk_none _ (by rw [h4]; exact fun l hm => ⟨hv l hm, hshort l hm⟩)), h4]
end Fd
end Go.Proofs.YtbfngdpdgmgfpaaDoor
namespace Go.Proofs.YtbfngdpdgmgfpaaDoor

namespace Fd
open Go.Lib
def co (b : Nat) : Prop := 128 ≤ b ∧ b ≤ 191
instance (b : Nat) : Decidable (co b) := by unfold co; infer_instance
def nxN (n b0 b1 b2 b3 : Nat) : Nat := if (decodeN n b0 b1 b2 b3).1 = 65533 ∧ (decodeN n b0 b1 b2 b3).2 = 1 then 0 else (decodeN n b0 b1 b2 b3).2
theorem nxN_1 (n b0 b1 b2 b3 : Nat) (h : b0 < 128) : nxN n b0 b1 b2 b3 = 1 := by
  unfold nxN decodeN; rw [if_pos h]
  rw [if_neg (by simp only; omega)]
theorem nxN_0 (n b0 b1 b2 b3 : Nat) (h : (128 ≤ b0 ∧ b0 < 194) ∨ (245 ≤ b0 ∧ b0 < 256)) : nxN n b0 b1 b2 b3 = 0 := by
  have : decodeN n b0 b1 b2 b3 = (65533, 1) := by
    unfold decodeN
    rw [if_neg (by omega)]
    repeat' split
    all_goals first | rfl | (exfalso; omega)
  unfold nxN; rw [this]; simp
theorem nxN_bad {n b0 b1 b2 b3 : Nat} (h : decodeN n b0 b1 b2 b3 = (65533, 1)) : nxN n b0 b1 b2 b3 = 0 := by unfold nxN; rw [h]; simp
theorem nxN_good {n b0 b1 b2 b3 r k : Nat} (h : decodeN n b0 b1 b2 b3 = (r, k)) (hk : 2 ≤ k) : nxN n b0 b1 b2 b3 = k := by
  unfold nxN; rw [h]; rw [if_neg (by simp only; omega)]
theorem nxN_2 (n b0 b1 b2 b3 : Nat) (h : 194 ≤ b0 ∧ b0 < 224) (h1 : b1 < 256) : nxN n b0 b1 b2 b3 = if 2 ≤ n ∧ co b1 then 2 else 0 := by
  by_cases c : 2 ≤ n ∧ co b1
  · rw [if_pos c]
    unfold co at c
    refine nxN_good (r := b0 % 32 * 64 + b1 % 64) ?_ (by omega)
    unfold decodeN
    rw [if_neg (by omega), if_pos (by omega), if_pos (by omega)]
  · rw [if_neg c]
    unfold co at c
    refine nxN_bad ?_
    unfold decodeN
    rw [if_neg (by omega), if_neg (by omega), if_neg (by omega), if_neg (by omega)]
theorem nxN_3 (n b0 b1 b2 b3 : Nat) (h : 224 ≤ b0 ∧ b0 < 240) (h1 : b1 < 256) (h2 : b2 < 256) :
    nxN n b0 b1 b2 b3 = if 3 ≤ n ∧ co b1 ∧ co b2 ∧ ¬ (b0 = 224 ∧ b1 < 160) ∧ ¬ (b0 = 237 ∧ 159 < b1) then 3 else 0 := by
  by_cases c : 3 ≤ n ∧ co b1 ∧ co b2 ∧ ¬ (b0 = 224 ∧ b1 < 160) ∧ ¬ (b0 = 237 ∧ 159 < b1)
  · rw [if_pos c]
    unfold co at c
    refine nxN_good (r := b0 % 16 * 4096 + b1 % 64 * 64 + b2 % 64) ?_ (by omega)
    unfold decodeN
    rw [if_neg (by omega), if_neg (by omega), if_pos (by omega), if_pos (by omega)]
  · rw [if_neg c]
    unfold co at c
    refine nxN_bad ?_
    unfold decodeN
    rw [if_neg (by omega), if_neg (by omega)]
    by_cases d : b0 / 16 = 14 ∧ (1 < n ∧ b1 / 64 = 2) ∧ (2 < n ∧ b2 / 64 = 2)
    · rw [if_pos d, if_neg (by omega)]
    · rw [if_neg d, if_neg (by omega)]
theorem nxN_4 (n b0 b1 b2 b3 : Nat) (h : 240 ≤ b0 ∧ b0 < 245) (h1 : b1 < 256) (h2 : b2 < 256) (h3 : b3 < 256) :
    nxN n b0 b1 b2 b3 = if 4 ≤ n ∧ co b1 ∧ co b2 ∧ co b3 ∧ ¬ (b0 = 240 ∧ b1 < 144) ∧ ¬ (b0 = 244 ∧ 143 < b1) then 4 else 0 := by
  by_cases c : 4 ≤ n ∧ co b1 ∧ co b2 ∧ co b3 ∧ ¬ (b0 = 240 ∧ b1 < 144) ∧ ¬ (b0 = 244 ∧ 143 < b1)
  · rw [if_pos c]
    unfold co at c
    refine nxN_good (r := b0 % 8 * 262144 + b1 % 64 * 4096 + b2 % 64 * 64 + b3 % 64) ?_ (by omega)
    unfold decodeN
    rw [if_neg (by omega), if_neg (by omega), if_neg (by omega), if_pos (by omega), if_pos (by omega)]
  · rw [if_neg c]
    unfold co at c
    refine nxN_bad ?_
    unfold decodeN
    rw [if_neg (by omega), if_neg (by omega), if_neg (by omega)]
    by_cases d : b0 / 8 = 30 ∧ (1 < n ∧ b1 / 64 = 2) ∧ (2 < n ∧ b2 / 64 = 2) ∧ (3 < n ∧ b3 / 64 = 2)
    · rw [if_pos d, if_neg (by omega)]
    · rw [if_neg d]
theorem get_drop (s : ByteArray) (i k : Nat) : (ByteArray.mk (s.data.toList.drop i).toArray).get! k = s.get! (i + k) := by
  show (s.data.toList.drop i).toArray[k]! = s.data[i + k]!
  rw [getElem!_def, getElem!_def]
  simp [List.getElem?_drop]
theorem nx_at (s : ByteArray) (i : Nat) : nx (s.data.toList.drop i) = nxN (s.size - i) (s.get! i).toNat (s.get! (i + 1)).toNat (s.get! (i + 2)).toNat (s.get! (i + 3)).toNat := by
  unfold nx nxN decodeL
  rw [decode_at, get_drop, get_drop, get_drop, get_drop]
  have : (ByteArray.mk (s.data.toList.drop i).toArray).size - 0 = s.size - i := by
    rw [Nat.sub_zero, Lib.size_eq, Lib.size_eq]
    exact List.length_drop
  rw [this]; simp only [Nat.zero_add, Nat.add_zero]
end Fd
end Go.Proofs.YtbfngdpdgmgfpaaDoor
namespace Go.Proofs.YtbfngdpdgmgfpaaDoor
namespace Fd
open Go.Lib

theorem get_list (l : List UInt8) (k : Nat) : (ByteArray.mk l.toArray).get! k = l.getD k 0 := by
  show l.toArray[k]! = _
  rw [getElem!_def]
  simp only [List.getElem?_toArray, List.getD_eq_getElem?_getD]
  cases l[k]? <;> rfl
theorem nx_list (l : List UInt8) : nx l = nxN l.length (l.getD 0 0).toNat (l.getD 1 0).toNat (l.getD 2 0).toNat (l.getD 3 0).toNat := by
  have h := nx_at ⟨l.toArray⟩ 0
  have hz : (ByteArray.mk l.toArray).size = l.length := by simp [ByteArray.size]
  rw [get_list, get_list, get_list, get_list, hz] at h
  simpa using h
theorem nx_low (b : UInt8) (l : List UInt8) (h : b.toNat < 128) : nx (b :: l) = 1 := by rw [nx_list, nxN_1]; exact h
theorem b256 (b : UInt8) : b.toNat < 256 := UInt8.toNat_lt b
theorem valid_low (b : UInt8) (l : List UInt8) (h : b.toNat < 128) : validD (b :: l) = validD l := by
  rw [valid_step _ (by simp), nx_low b l h]; simp

/- what the head of a text is: its first bytes alone decide -/
theorem nx_head (b0 : UInt8) (l : List UInt8) (h : 128 ≤ b0.toNat) (h0 : nx (b0 :: l) ≠ 0) :
    ∃ p r, l = p ++ r ∧ nx (b0 :: l) = p.length + 1 ∧ (∀ b ∈ p, 128 ≤ b.toNat) ∧ p ≠ [] ∧ ∀ r', nx (b0 :: (p ++ r')) = p.length + 1 := by
  have hc : ((128 ≤ b0.toNat ∧ b0.toNat < 194) ∨ (245 ≤ b0.toNat ∧ b0.toNat < 256)) ∨ (194 ≤ b0.toNat ∧ b0.toNat < 224) ∨ (224 ≤ b0.toNat ∧ b0.toNat < 240) ∨ (240 ≤ b0.toNat ∧ b0.toNat < 245) := by have := b256 b0; omega
  have e := nx_list (b0 :: l)
  simp only [List.getD_cons_zero, List.length_cons] at e
  rcases hc with hc | hc | hc | hc
  · rw [nxN_0 _ _ _ _ _ hc] at e; exact absurd e h0
  · rw [nxN_2 _ _ _ _ _ hc (b256 _)] at e
    split at e
    · rename_i c
      rcases l with _ | ⟨b1, r⟩
      · simp at c
      · refine ⟨[b1], r, rfl, e, ?_, by simp, fun r' => ?_⟩
        · have := c.2
          simp [co] at this
          simp; omega
        · rw [nx_list]
          simp only [List.getD_cons_zero, List.length_cons, List.cons_append, List.nil_append]
          rw [nxN_2 _ _ _ _ _ hc (b256 _), if_pos]
          · simp
          · refine ⟨by omega, ?_⟩
            simpa using c.2
    · exact absurd e h0
  · rw [nxN_3 _ _ _ _ _ hc (b256 _) (b256 _)] at e
    split at e
    · rename_i c
      rcases l with _ | ⟨b1, _ | ⟨b2, r⟩⟩
      · simp at c
      · simp at c
      · refine ⟨[b1, b2], r, rfl, e, ?_, by simp, fun r' => ?_⟩
        · have h1 := c.2.1
          have h2 := c.2.2.1
          simp [co] at h1 h2
          simp; omega
        · rw [nx_list]
          simp only [List.getD_cons_zero, List.length_cons, List.cons_append, List.nil_append]
          rw [nxN_3 _ _ _ _ _ hc (b256 _) (b256 _), if_pos]
          · simp
          · refine ⟨by omega, ?_⟩
            simpa using c.2
    · exact absurd e h0
  · rw [nxN_4 _ _ _ _ _ hc (b256 _) (b256 _) (b256 _)] at e
    split at e
    · rename_i c
      rcases l with _ | ⟨b1, _ | ⟨b2, _ | ⟨b3, r⟩⟩⟩
      · simp at c
      · simp at c
      · simp at c
      · refine ⟨[b1, b2, b3], r, rfl, e, ?_, by simp, fun r' => ?_⟩
        · have h1 := c.2.1
          have h2 := c.2.2.1
          have h3 := c.2.2.2.1
          simp [co] at h1 h2 h3
          simp; omega
        · rw [nx_list]
          simp only [List.getD_cons_zero, List.length_cons, List.cons_append, List.nil_append]
          rw [nxN_4 _ _ _ _ _ hc (b256 _) (b256 _) (b256 _), if_pos]
          · simp
          · refine ⟨by omega, ?_⟩
            simpa using c.2
    · exact absurd e h0
/- a text of UTF-8, step by step: nothing, a byte of ASCII ahead of one, or bytes beyond ASCII ahead of one -/
theorem valid_cases (l : List UInt8) (h : validD l = true) :
    l = [] ∨ (∃ b r, l = b :: r ∧ b.toNat < 128 ∧ validD r = true) ∨ (∃ p r, l = p ++ r ∧ p ≠ [] ∧ (∀ b ∈ p, 128 ≤ b.toNat) ∧ validD r = true ∧ ∀ r', validD (p ++ r') = validD r') := by
  rcases l with _ | ⟨b, l⟩
  · exact .inl rfl
  · right
    by_cases hb : b.toNat < 128
    · exact .inl ⟨b, l, rfl, hb, by rwa [valid_low b l hb] at h⟩
    · right
      have hs := valid_step (b :: l) (by simp)
      rw [h] at hs
      have h0 : nx (b :: l) ≠ 0 := by intro e; rw [if_pos e] at hs; cases hs
      obtain ⟨p, r, rfl, e, hp, hpn, hall⟩ := nx_head b l (by omega) h0
      rw [if_neg h0, e, show p.length + 1 = (b :: p).length from rfl, ← List.cons_append, List.drop_left] at hs
      refine ⟨b :: p, r, rfl, by simp, ?_, hs.symm, fun r' => ?_⟩
      · intro x hx
        rcases List.mem_cons.1 hx with rfl | hx
        · omega
        · exact hp x hx
      · rw [valid_step _ (by simp)]
        simp only [List.cons_append]
        rw [hall r', if_neg (by omega), show p.length + 1 = (b :: p).length from rfl, ← List.cons_append, List.drop_left]
theorem valid_asc (a r : List UInt8) (h : ∀ b ∈ a, b.toNat < 128) : validD (a ++ r) = validD r := by
  induction a with
  | nil => rfl
  | cons b a ih =>
    rw [List.cons_append, valid_low b _ (h b (by simp))]
    exact ih (fun x hx => h x (by simp [hx]))
theorem valid_cat (a b : List UInt8) (ha : validD a = true) : validD (a ++ b) = validD b := by
  generalize hn : a.length = n
  induction n using Nat.strongRecOn generalizing a with
  | _ n ih =>
    rcases valid_cases a ha with rfl | ⟨x, r, rfl, hx, hr⟩ | ⟨p, r, rfl, hp, _, hr, hall⟩
    · rfl
    · rw [List.cons_append, valid_low x _ hx]
      exact ih r.length (by simp at hn; omega) r hr rfl
    · rw [List.append_assoc, hall]
      have := List.length_pos_iff.2 hp
      exact ih r.length (by simp at hn; omega) r hr rfl
theorem valid_split (a b : List UInt8) (c : UInt8) (hc : c.toNat < 128) (h : validD (a ++ c :: b) = true) : validD a = true ∧ validD b = true := by
  generalize hn : a.length = n
  induction n using Nat.strongRecOn generalizing a with
  | _ n ih =>
    rcases a with _ | ⟨x, a⟩
    · rw [List.nil_append, valid_low c b hc] at h
      exact ⟨valid_nil, h⟩
    · rcases valid_cases _ h with h0 | ⟨y, r, e, hy, hr⟩ | ⟨p, r, e, hp, hp2, hr, hall⟩
      · cases h0
      · rw [List.cons_append] at e
        injection e with e1 e2
        subst e1 e2
        obtain ⟨i1, i2⟩ := ih a.length (by simp at hn; omega) a hr rfl
        exact ⟨by rw [valid_low x a hy]; exact i1, i2⟩
      · rcases List.append_eq_append_iff.1 e with ⟨q, e1, e2⟩ | ⟨q, e1, e2⟩
        · rcases q with _ | ⟨y, q⟩
          · rw [List.append_nil] at e1
            rw [List.nil_append] at e2
            subst e1
            rw [← e2, valid_low c b hc] at hr
            refine ⟨?_, hr⟩
            have := hall []
            rw [List.append_nil] at this
            rw [this]; exact valid_nil
          · rw [List.cons_append] at e2
            injection e2 with e3 _
            have := hp2 y (by rw [e1]; simp)
            rw [← e3] at this
            omega
        · rw [e1]
          rw [e2] at hr
          have hl := congrArg List.length e1
          rw [List.length_append] at hl
          have := List.length_pos_iff.2 hp
          obtain ⟨i1, i2⟩ := ih q.length (by rw [← hn]; omega) q hr rfl
          exact ⟨by rw [hall]; exact i1, i2⟩
/- bytes of ASCII turned into bytes of ASCII -/
theorem valid_map (f : UInt8 → List UInt8) (h1 : ∀ b, 128 ≤ b.toNat → f b = [b]) (h2 : ∀ b, b.toNat < 128 → ∀ x ∈ f b, x.toNat < 128) (l : List UInt8) (h : validD l = true) : validD (l.flatMap f) = true := by
  generalize hn : l.length = n
  induction n using Nat.strongRecOn generalizing l with
  | _ n ih =>
    rcases valid_cases l h with rfl | ⟨x, r, rfl, hx, hr⟩ | ⟨p, r, rfl, hp, hp2, hr, hall⟩
    · rfl
    · rw [List.flatMap_cons, valid_asc _ _ (h2 x hx)]
      exact ih r.length (by simp at hn; omega) r hr rfl
    · have e : p.flatMap f = p := by
        clear hall hn hp h
        induction p with
        | nil => rfl
        | cons y p ih2 =>
          rw [List.flatMap_cons, h1 y (hp2 y (by simp)), ih2 (fun b hb => hp2 b (by simp [hb]))]
          rfl
      rw [List.flatMap_append, e, hall]
      have := List.length_pos_iff.2 hp
      exact ih r.length (by simp at hn; omega) r hr rfl
end Fd
end Go.Proofs.YtbfngdpdgmgfpaaDoor
namespace Go.Proofs.YtbfngdpdgmgfpaaDoor
namespace Es
open Go.Lib _root_.Go.Proofs.YtbfngdpdgmgfpaaDoor.Fd

/- which bytes a text may not have, and the error of a text (3: not UTF-8, 7: such a byte) -/
def bad (f : Bool) (b : UInt8) : Bool := b == 127 || (decide (b.toNat < 32) && b != 9 && !(f && b == 10))
def clE (f : Bool) (l : List UInt8) : Int := if validD l = false then 3 else if l.any (bad f) then 7 else 0
theorem clE_utf {f : Bool} {l : List UInt8} (h : validD l = false) : clE f l = 3 := by unfold clE; rw [if_pos h]
theorem clE_val {f : Bool} {l : List UInt8} (h : validD l = true) (h2 : l.any (bad f) = true) : clE f l = 7 := by unfold clE; rw [if_neg (by simp [h]), if_pos h2]
theorem clE_ok {f : Bool} {l : List UInt8} (h : validD l = true) (h2 : l.any (bad f) = false) : clE f l = 0 := by unfold clE; rw [if_neg (by simp [h]), if_neg (by simp [h2])]
theorem clE_zero {f : Bool} {l : List UInt8} (h : clE f l = 0) : validD l = true ∧ l.any (bad f) = false := by
  unfold clE at h
  split at h
  · cases h
  · rename_i c
    split at h
    · cases h
    · rename_i d
      exact ⟨by simpa using c, by simpa using d⟩
theorem clE_cases (f : Bool) (l : List UInt8) : clE f l = 3 ∨ clE f l = 7 ∨ clE f l = 0 := by
  unfold clE; split
  · exact .inl rfl
  · split
    · exact .inr (.inl rfl)
    · exact .inr (.inr rfl)

/- a text, written -/
def t1 (b : UInt8) : List UInt8 := if b = 10 then [92, 110] else if b = 92 ∨ b = 59 ∨ b = 44 then [92, b] else [b]
def tx (l : List UInt8) : List UInt8 := l.flatMap t1
def txT (l : List UInt8) : List UInt8 := if clE true l = 0 then tx l else []
theorem t1_feed : t1 10 = [92, 110] := rfl
theorem t1_esc {b : UInt8} (h : b = 92 ∨ b = 59 ∨ b = 44) : t1 b = [92, b] := by
  unfold t1; rw [if_neg, if_pos h]
  rcases h with rfl | rfl | rfl <;> decide
theorem t1_else {b : UInt8} (h0 : b ≠ 10) (h1 : b ≠ 92) (h2 : b ≠ 59) (h3 : b ≠ 44) : t1 b = [b] := by
  unfold t1; rw [if_neg h0, if_neg (by simp [h1, h2, h3])]
theorem tx_snoc (l : List UInt8) (k : Nat) (h : k < l.length) : tx (l.take (k + 1)) = tx (l.take k) ++ t1 l[k] := by
  unfold tx; rw [List.take_succ_eq_append_getElem h, List.flatMap_append]; simp
theorem t1_len (b : UInt8) : (t1 b).length ≤ 2 := by unfold t1; split <;> (try split) <;> simp
theorem tx_len (l : List UInt8) : (tx l).length ≤ 2 * l.length := by
  induction l with
  | nil => simp [tx]
  | cons b l ih =>
    have := t1_len b
    have e : tx (b :: l) = t1 b ++ tx l := by simp [tx]
    rw [e, List.length_append, List.length_cons]; omega

/- texts with commas between, read: one: what has been read of the text under way -/
def rd (one : List UInt8) : List UInt8 → Option (List (List UInt8))
  | [] => some [one]
  | c :: r => if c = 44 then (rd [] r).map (one :: ·) else if c = 59 then none else if c ≠ 92 then rd (one ++ [c]) r else
    match r with
    | [] => none
    | d :: r' => if d = 110 ∨ d = 78 then rd (one ++ [10]) r' else if d = 92 ∨ d = 59 ∨ d = 44 then rd (one ++ [d]) r' else none
theorem rd_nil (one : List UInt8) : rd one [] = some [one] := by simp [rd]
theorem rd_comma (one r : List UInt8) : rd one (44 :: r) = (rd [] r).map (one :: ·) := by rw [rd.eq_def]; simp
theorem rd_semi (one r : List UInt8) : rd one (59 :: r) = none := by rw [rd.eq_def]; simp
theorem rd_plain (one r : List UInt8) (c : UInt8) (h1 : c ≠ 44) (h2 : c ≠ 59) (h3 : c ≠ 92) : rd one (c :: r) = rd (one ++ [c]) r := by rw [rd.eq_def]; simp [h1, h2, h3]
/- what a backslash ahead of a text stands for -/
def ab : List UInt8 → Option UInt8
  | [] => none
  | d :: _ => if d = 110 ∨ d = 78 then some 10 else if d = 92 ∨ d = 59 ∨ d = 44 then some d else none
theorem ab_n {d : UInt8} {r : List UInt8} (h : d = 110 ∨ d = 78) : ab (d :: r) = some 10 := by simp [ab, h]
theorem ab_c {d : UInt8} {r : List UInt8} (h : d = 92 ∨ d = 59 ∨ d = 44) : ab (d :: r) = some d := by
  rcases h with rfl | rfl | rfl <;> rfl
theorem ab_no {d : UInt8} {r : List UInt8} (h1 : d ≠ 110) (h2 : d ≠ 78) (h3 : d ≠ 92) (h4 : d ≠ 59) (h5 : d ≠ 44) : ab (d :: r) = none := by simp [ab, h1, h2, h3, h4, h5]
theorem rd_back_some (one r : List UInt8) (x : UInt8) (h : ab r = some x) : rd one (92 :: r) = rd (one ++ [x]) r.tail := by
  rcases r with _ | ⟨d, r⟩
  · cases h
  · rw [rd.eq_def]
    simp only [ab] at h
    simp only [List.tail_cons]
    by_cases c1 : d = 110 ∨ d = 78
    · rw [if_pos c1] at h
      injection h with h
      subst h
      simp [c1]
    · rw [if_neg c1] at h
      by_cases c2 : d = 92 ∨ d = 59 ∨ d = 44
      · rw [if_pos c2] at h
        injection h with h
        subst h
        simp [c1, c2]
      · rw [if_neg c2] at h; cases h
theorem rd_back_none (one r : List UInt8) (h : ab r = none) : rd one (92 :: r) = none := by
  rcases r with _ | ⟨d, r⟩
  · rw [rd.eq_def]; simp
  · rw [rd.eq_def]
    simp only [ab] at h
    by_cases c1 : d = 110 ∨ d = 78
    · rw [if_pos c1] at h; cases h
    · rw [if_neg c1] at h
      by_cases c2 : d = 92 ∨ d = 59 ∨ d = 44
      · rw [if_pos c2] at h; cases h
      · simp [c1, c2]
theorem ab_ne {r : List UInt8} {x : UInt8} (h : ab r = some x) : r ≠ [] := by intro e; subst e; cases h
/- an induction that goes along with reading -/
theorem rd_ind {P : List UInt8 → Prop} (h0 : P []) (h1 : ∀ r, P r → P (44 :: r)) (h2 : ∀ r, P (59 :: r)) (h3 : ∀ r, ab r = none → P (92 :: r)) (h4 : ∀ r x, ab r = some x → P r.tail → P (92 :: r))
    (h5 : ∀ c r, c ≠ 44 → c ≠ 59 → c ≠ 92 → P r → P (c :: r)) : ∀ l, P l := by
  intro l
  generalize hn : l.length = n
  induction n using Nat.strongRecOn generalizing l with
  | _ n ih =>
    rcases l with _ | ⟨c, r⟩
    · exact h0
    · have hr : P r := ih r.length (by simp at hn; omega) r rfl
      by_cases c1 : c = 44
      · subst c1; exact h1 r hr
      · by_cases c2 : c = 59
        · subst c2; exact h2 r
        · by_cases c3 : c = 92
          · subst c3
            cases e : ab r with
            | none => exact h3 r e
            | some x => exact h4 r x e (ih r.tail.length (by simp at hn; rw [List.length_tail]; omega) r.tail rfl)
          · exact h5 c r c1 c2 c3 hr
theorem rd_ne (l : List UInt8) : ∀ one, rd one l ≠ some [] := by
  refine rd_ind (P := fun l => ∀ one, rd one l ≠ some []) ?_ ?_ ?_ ?_ ?_ ?_ l
  · intro one; rw [rd_nil]; simp
  · intro r _ one; rw [rd_comma]; cases rd [] r <;> simp
  · intro r one; rw [rd_semi]; simp
  · intro r h one; rw [rd_back_none _ _ h]; simp
  · intro r x h i one; rw [rd_back_some _ _ _ h]; exact i _
  · intro c r a1 a2 a3 i one; rw [rd_plain _ _ _ a1 a2 a3]; exact i _
def sing : Option (List (List UInt8)) → Option (List UInt8)
  | some [t] => some t
  | _ => none
theorem sing_one (t : List UInt8) : sing (some [t]) = some t := rfl
theorem sing_none : sing none = none := rfl
theorem sing_more (one : List UInt8) (r : List UInt8) : sing (rd one (44 :: r)) = none := by
  rw [rd_comma]
  cases h : rd [] r with
  | none => rfl
  | some x =>
    rcases x with _ | ⟨a, x⟩
    · exact absurd h (rd_ne r [])
    · rfl

/- what is ahead of and behind the first unescaped comma -/
def cu : List UInt8 → List UInt8 × List UInt8 × Bool
  | [] => ([], [], false)
  | c :: r => if c = 44 then ([], r, true) else if c ≠ 92 then (c :: (cu r).1, (cu r).2) else
    match r with
    | [] => ([92], [], false)
    | d :: r' => (92 :: d :: (cu r').1, (cu r').2)
theorem cu_nil : cu [] = ([], [], false) := by simp [cu]
theorem cu_comma (r : List UInt8) : cu (44 :: r) = ([], r, true) := by rw [cu.eq_def]; simp
theorem cu_plain (c : UInt8) (r : List UInt8) (h1 : c ≠ 44) (h2 : c ≠ 92) : cu (c :: r) = (c :: (cu r).1, (cu r).2) := by rw [cu.eq_def]; simp [h1, h2]
theorem cu_last : cu [92] = ([92], [], false) := by rw [cu.eq_def]; simp
theorem cu_back (d : UInt8) (r : List UInt8) : cu (92 :: d :: r) = (92 :: d :: (cu r).1, (cu r).2) := by rw [cu.eq_def]; simp
theorem cu_ind {P : List UInt8 → Prop} (h0 : P []) (h1 : ∀ r, P (44 :: r)) (h2 : P [92]) (h3 : ∀ d r, P r → P (92 :: d :: r)) (h4 : ∀ c r, c ≠ 44 → c ≠ 92 → P r → P (c :: r)) : ∀ l, P l := by
  intro l
  generalize hn : l.length = n
  induction n using Nat.strongRecOn generalizing l with
  | _ n ih =>
    rcases l with _ | ⟨c, r⟩
    · exact h0
    · by_cases c1 : c = 44
      · subst c1; exact h1 r
      · by_cases c2 : c = 92
        · subst c2
          rcases r with _ | ⟨d, r⟩
          · exact h2
          · exact h3 d r (ih r.length (by simp at hn; omega) r rfl)
        · exact h4 c r c1 c2 (ih r.length (by simp at hn; omega) r rfl)
theorem cu_eq (l : List UInt8) : l = (cu l).1 ++ (if (cu l).2.2 then 44 :: (cu l).2.1 else []) := by
  refine cu_ind (P := fun l => l = (cu l).1 ++ (if (cu l).2.2 then 44 :: (cu l).2.1 else [])) ?_ ?_ ?_ ?_ ?_ l
  · rw [cu_nil]; rfl
  · intro r; rw [cu_comma]; rfl
  · rw [cu_last]; rfl
  · intro d r i
    rw [cu_back]
    simp only [List.cons_append]
    rw [← i]
  · intro c r a1 a2 i
    rw [cu_plain _ _ a1 a2]
    simp only [List.cons_append]
    rw [← i]
theorem cu_more (l : List UInt8) (h : (cu l).2.2 = true) : l = (cu l).1 ++ 44 :: (cu l).2.1 := by
  have := cu_eq l
  rwa [h, if_pos rfl] at this
theorem cu_end (l : List UInt8) (h : (cu l).2.2 = false) : (cu l).1 = l := by
  have := cu_eq l
  rw [h, if_neg (by simp), List.append_nil] at this
  exact this.symm
theorem cu_rest (l : List UInt8) : (cu l).2.2 = false → (cu l).2.1 = [] := by
  refine cu_ind (P := fun l => (cu l).2.2 = false → (cu l).2.1 = []) ?_ ?_ ?_ ?_ ?_ l
  · rw [cu_nil]; intro; rfl
  · intro r; rw [cu_comma]; intro h; cases h
  · rw [cu_last]; intro; rfl
  · intro d r i; rw [cu_back]; exact i
  · intro c r a1 a2 i; rw [cu_plain _ _ a1 a2]; exact i
theorem rd_cut (l : List UInt8) : ∀ one, rd one l = match sing (rd one (cu l).1) with
    | none => none
    | some t => if (cu l).2.2 then (rd [] (cu l).2.1).map (t :: ·) else some [t] := by
  refine cu_ind (P := fun l => ∀ one, rd one l = match sing (rd one (cu l).1) with
    | none => none
    | some t => if (cu l).2.2 then (rd [] (cu l).2.1).map (t :: ·) else some [t]) ?_ ?_ ?_ ?_ ?_ l
  · intro one; rw [cu_nil, rd_nil]; rfl
  · intro r one; rw [cu_comma, rd_nil, rd_comma]; rfl
  · intro one; rw [cu_last, rd_back_none _ _ rfl]; rfl
  · intro d r i one
    rw [cu_back]
    have hab : ab (d :: r) = ab (d :: (cu r).1) := rfl
    cases e : ab (d :: r) with
    | none => rw [rd_back_none _ _ e, rd_back_none _ _ (hab ▸ e)]; rfl
    | some x =>
      rw [rd_back_some _ _ _ e, rd_back_some _ _ _ (hab ▸ e)]
      exact i _
  · intro c r a1 a2 i one
    rw [cu_plain _ _ a1 a2]
    by_cases a3 : c = 59
    · subst a3; rw [rd_semi, rd_semi]; rfl
    · rw [rd_plain _ _ _ a1 a3 a2, rd_plain _ _ _ a1 a3 a2]
      exact i _

/- one text, read -/
def plR (l : List UInt8) : Option (List UInt8) := if l.any (bad false) then none else sing (rd [] l)
def plE (l : List UInt8) : Int := if validD l = false then 3 else match plR l with | none => 7 | some _ => 0
def plT (l : List UInt8) : List UInt8 := if validD l = false then [] else (plR l).getD []
theorem pl_utf {l : List UInt8} (h : validD l = false) : plE l = 3 ∧ plT l = [] := by unfold plE plT; rw [if_pos h, if_pos h]; exact ⟨rfl, rfl⟩
theorem pl_none {l : List UInt8} (h : validD l = true) (h2 : plR l = none) : plE l = 7 ∧ plT l = [] := by unfold plE plT; rw [if_neg (by simp [h]), if_neg (by simp [h]), h2]; exact ⟨rfl, rfl⟩
theorem pl_some {l t : List UInt8} (h : validD l = true) (h2 : plR l = some t) : plE l = 0 ∧ plT l = t := by unfold plE plT; rw [if_neg (by simp [h]), if_neg (by simp [h]), h2]; exact ⟨rfl, rfl⟩
theorem plR_bad {l : List UInt8} (h : l.any (bad false) = true) : plR l = none := by unfold plR; rw [if_pos h]
theorem plR_ok {l : List UInt8} (h : l.any (bad false) = false) : plR l = sing (rd [] l) := by unfold plR; rw [if_neg (by simp [h])]
/- the list, read -/
def fin (l : List UInt8) : Option (List (List UInt8)) := if l.any (bad false) then none else rd [] l
theorem fin_bad {l : List UInt8} (h : l.any (bad false) = true) : fin l = none := by unfold fin; rw [if_pos h]
theorem fin_ok {l : List UInt8} (h : l.any (bad false) = false) : fin l = rd [] l := by unfold fin; rw [if_neg (by simp [h])]
theorem bad_comma : bad false 44 = false := by decide
theorem fin_none (l : List UInt8) (h : plR (cu l).1 = none) : fin l = none := by
  by_cases c : (cu l).1.any (bad false) = true
  · refine fin_bad ?_
    rw [cu_eq l, List.any_append, c]; rfl
  · have c' : (cu l).1.any (bad false) = false := by simpa using c
    rw [plR_ok c'] at h
    unfold fin
    split
    · rfl
    · rw [rd_cut, h]
theorem fin_more (l t : List UInt8) (h : plR (cu l).1 = some t) (hm : (cu l).2.2 = true) : fin l = (fin (cu l).2.1).map (t :: ·) := by
  by_cases c : (cu l).1.any (bad false) = true
  · rw [plR_bad c] at h; cases h
  · have c' : (cu l).1.any (bad false) = false := by simpa using c
    rw [plR_ok c'] at h
    have e : l.any (bad false) = (cu l).2.1.any (bad false) := by
      conv => lhs; rw [cu_more l hm]
      rw [List.any_append, c', List.any_cons, bad_comma]; rfl
    have hr := rd_cut l []
    rw [h] at hr
    simp only at hr
    rw [hm, if_pos rfl] at hr
    unfold fin
    rw [e, hr]
    split <;> rfl
theorem fin_end (l t : List UInt8) (h : plR (cu l).1 = some t) (hm : (cu l).2.2 = false) : fin l = some [t] := by
  by_cases c : (cu l).1.any (bad false) = true
  · rw [plR_bad c] at h; cases h
  · have c' : (cu l).1.any (bad false) = false := by simpa using c
    rw [plR_ok c'] at h
    have e := cu_end l hm
    rw [e] at c'
    rw [fin_ok c', rd_cut, h]
    simp only
    rw [hm]; simp
theorem cu_valid (l : List UInt8) (h : validD l = true) : validD (cu l).1 = true ∧ validD (cu l).2.1 = true := by
  cases hm : (cu l).2.2
  · rw [cu_end l hm, cu_rest l hm]; exact ⟨h, valid_nil⟩
  · rw [cu_more l hm] at h
    exact valid_split _ _ 44 (by decide) h
def itE (l : List UInt8) : Int := if l = [] then 7 else if validD l = false then 3 else match fin l with | none => 7 | some _ => 0
def itT (l : List UInt8) : List (List UInt8) := if l = [] ∨ validD l = false then [] else (fin l).getD []
theorem it_nil : itE [] = 7 ∧ itT [] = [] := ⟨rfl, rfl⟩
theorem it_utf {l : List UInt8} (h0 : l ≠ []) (h : validD l = false) : itE l = 3 ∧ itT l = [] := by unfold itE itT; rw [if_neg h0, if_pos h, if_pos (.inr h)]; exact ⟨rfl, rfl⟩
theorem it_none {l : List UInt8} (h0 : l ≠ []) (h : validD l = true) (h2 : fin l = none) : itE l = 7 ∧ itT l = [] := by
  unfold itE itT; rw [if_neg h0, if_neg (by simp [h]), if_neg (by simp [h0, h]), h2]; exact ⟨rfl, rfl⟩
theorem it_some {l : List UInt8} {ts : List (List UInt8)} (h0 : l ≠ []) (h : validD l = true) (h2 : fin l = some ts) : itE l = 0 ∧ itT l = ts := by
  unfold itE itT; rw [if_neg h0, if_neg (by simp [h]), if_neg (by simp [h0, h]), h2]; exact ⟨rfl, rfl⟩
/- how much is read -/
theorem rd_len (l : List UInt8) : ∀ one ts, rd one l = some ts → ts.flatten.length ≤ one.length + l.length ∧ ts.length ≤ l.length + 1 := by
  refine rd_ind (P := fun l => ∀ one ts, rd one l = some ts → ts.flatten.length ≤ one.length + l.length ∧ ts.length ≤ l.length + 1) ?_ ?_ ?_ ?_ ?_ ?_ l
  · intro one ts h; rw [rd_nil] at h; injection h with h; subst h; simp
  · intro r i one ts h
    rw [rd_comma] at h
    cases e : rd [] r with
    | none => rw [e] at h; cases h
    | some us =>
      rw [e] at h
      injection h with h
      have := i [] us e
      subst h
      simp only [List.flatten_cons, List.length_append, List.length_cons, List.length_nil] at *
      omega
  · intro r one ts h; rw [rd_semi] at h; cases h
  · intro r h0 one ts h; rw [rd_back_none _ _ h0] at h; cases h
  · intro r x h0 i one ts h
    rw [rd_back_some _ _ _ h0] at h
    have := i _ _ h
    have h3 := List.length_pos_iff.2 (ab_ne h0)
    simp only [List.length_append, List.length_cons, List.length_nil, List.length_tail] at *
    omega
  · intro c r a1 a2 a3 i one ts h
    rw [rd_plain _ _ _ a1 a2 a3] at h
    have := i _ _ h
    simp only [List.length_append, List.length_cons, List.length_nil] at *
    omega

/- there and back -/
theorem rd_tx (l : List UInt8) : ∀ one r, rd one (tx l ++ r) = rd (one ++ l) r := by
  induction l with
  | nil => intro one r; simp [tx]
  | cons b l ih =>
    intro one r
    have e : tx (b :: l) ++ r = t1 b ++ (tx l ++ r) := by simp [tx]
    rw [e]
    by_cases c0 : b = 10
    · subst c0
      rw [t1_feed]
      show rd one (92 :: 110 :: (tx l ++ r)) = _
      rw [rd_back_some _ _ 10 rfl, List.tail_cons, ih]; simp
    · by_cases c1 : b = 92 ∨ b = 59 ∨ b = 44
      · rw [t1_esc c1]
        show rd one (92 :: b :: (tx l ++ r)) = _
        rw [rd_back_some _ _ b (ab_c c1), List.tail_cons, ih]; simp
      · simp only [not_or] at c1
        rw [t1_else c0 c1.1 c1.2.1 c1.2.2]
        show rd one (b :: (tx l ++ r)) = _
        rw [rd_plain _ _ _ c1.2.2 c1.2.1 c1.1, ih]; simp
theorem rd_text (l : List UInt8) : rd [] (tx l) = some [l] := by
  have := rd_tx l [] []
  rw [List.append_nil, rd_nil] at this
  simpa using this
theorem byte_ind {P : UInt8 → Prop} (h : ∀ n : Fin 256, P (UInt8.ofNat n.val)) (b : UInt8) : P b := by
  have := h ⟨b.toNat, b256 b⟩
  simpa using this
theorem t1_bad (b : UInt8) (h : bad true b = false) : (t1 b).any (bad false) = false := by
  revert h
  refine byte_ind (P := fun b => bad true b = false → (t1 b).any (bad false) = false) ?_ b
  decide +kernel
theorem tx_bad (l : List UInt8) (h : l.any (bad true) = false) : (tx l).any (bad false) = false := by
  induction l with
  | nil => rfl
  | cons b l ih =>
    rw [List.any_cons, Bool.or_eq_false_iff] at h
    have e : tx (b :: l) = t1 b ++ tx l := by simp [tx]
    rw [e, List.any_append, t1_bad b h.1, ih h.2]; rfl
theorem t1_hi (b : UInt8) (h : 128 ≤ b.toNat) : t1 b = [b] := by
  revert h
  refine byte_ind (P := fun b => 128 ≤ b.toNat → t1 b = [b]) ?_ b
  decide +kernel
theorem t1_lo (b : UInt8) (h : b.toNat < 128) : ∀ x ∈ t1 b, x.toNat < 128 := by
  revert h
  refine byte_ind (P := fun b => b.toNat < 128 → ∀ x ∈ t1 b, x.toNat < 128) ?_ b
  decide +kernel
theorem tx_valid (l : List UInt8) (h : validD l = true) : validD (tx l) = true := valid_map t1 t1_hi t1_lo l h
theorem pl_tx (l : List UInt8) (h : clE true l = 0) : plE (tx l) = 0 ∧ plT (tx l) = l := by
  obtain ⟨h1, h2⟩ := clE_zero h
  refine pl_some (tx_valid l h1) ?_
  rw [plR_ok (tx_bad l h2), rd_text]; rfl

/- a list, written -/
def ls (l : List (List UInt8)) : List UInt8 := Lib.join (l.map tx) [44]
theorem ls_one (x : List UInt8) : ls [x] = tx x := by simp [ls, join_one]
theorem ls_cons (x y : List UInt8) (r : List (List UInt8)) : ls (x :: y :: r) = tx x ++ 44 :: ls (y :: r) := by
  unfold ls
  rw [List.map_cons, join_cons, List.map_cons, join_cons]
  simp [joinTail]
theorem ls_rd (l : List (List UInt8)) (h : l ≠ []) : rd [] (ls l) = some l := by
  induction l with
  | nil => exact absurd rfl h
  | cons x r ih =>
    rcases r with _ | ⟨y, r⟩
    · rw [ls_one, rd_text]
    · rw [ls_cons, rd_tx, rd_comma, ih (by simp)]; simp
theorem ls_fine (l : List (List UInt8)) (h : l ≠ []) (hc : ∀ x ∈ l, clE true x = 0) : validD (ls l) = true ∧ (ls l).any (bad false) = false := by
  induction l with
  | nil => exact absurd rfl h
  | cons x r ih =>
    obtain ⟨h1, h2⟩ := clE_zero (hc x (by simp))
    rcases r with _ | ⟨y, r⟩
    · rw [ls_one]; exact ⟨tx_valid x h1, tx_bad x h2⟩
    · obtain ⟨i1, i2⟩ := ih (by simp) (fun z hz => hc z (by simp [hz]))
      rw [ls_cons, valid_cat _ _ (tx_valid x h1), valid_low 44 _ (by decide), List.any_append, tx_bad x h2, List.any_cons, bad_comma]
      exact ⟨i1, i2⟩
theorem tx_ne (l : List UInt8) (h : l ≠ []) : tx l ≠ [] := by
  rcases l with _ | ⟨b, l⟩
  · exact absurd rfl h
  · intro e
    have e2 : tx (b :: l) = t1 b ++ tx l := by simp [tx]
    rw [e2, List.append_eq_nil_iff] at e
    have := e.1
    unfold t1 at this
    split at this
    · cases this
    · split at this <;> cases this
theorem ls_ne (l : List (List UInt8)) (h : l ≠ []) (h1 : l ≠ [[]]) : ls l ≠ [] := by
  rcases l with _ | ⟨x, _ | ⟨y, r⟩⟩
  · exact absurd rfl h
  · rw [ls_one]; refine tx_ne x ?_; intro e; subst e; exact h1 rfl
  · rw [ls_cons]; simp
theorem it_ls (l : List (List UInt8)) (h : l ≠ []) (h1 : l ≠ [[]]) (hc : ∀ x ∈ l, clE true x = 0) : itE (ls l) = 0 ∧ itT (ls l) = l := by
  obtain ⟨a, b⟩ := ls_fine l h hc
  refine it_some (ls_ne l h h1) a ?_
  rw [fin_ok b, ls_rd l h]
theorem ls_len (l : List (List UInt8)) (n : Nat) (h : ∀ x ∈ l, x.length ≤ n) : (ls l).length ≤ l.length * (2 * n + 1) := by
  induction l with
  | nil => simp [ls, join_nil]
  | cons x r ih =>
    have i := ih (fun z hz => h z (by simp [hz]))
    have hx := h x (by simp)
    have ht := tx_len x
    rcases r with _ | ⟨y, r⟩
    · rw [ls_one]; simp only [List.length_cons, List.length_nil]; omega
    · rw [ls_cons, List.length_append, List.length_cons]
      have : (x :: y :: r).length * (2 * n + 1) = (y :: r).length * (2 * n + 1) + (2 * n + 1) := by rw [List.length_cons, Nat.succ_mul]
      omega
/- the error of a list's first bad text -/
def lsB (l : List (List UInt8)) : Int := match l.find? (fun x => clE true x != 0) with | none => 0 | some x => clE true x
theorem lsB_zero {l : List (List UInt8)} (h : lsB l = 0) : ∀ x ∈ l, clE true x = 0 := by
  intro x hx
  unfold lsB at h
  split at h
  · rename_i e
    have := List.find?_eq_none.1 e x hx
    simpa using this
  · rename_i y e
    have := List.find?_some e
    simp [h] at this
theorem lsB_all {l : List (List UInt8)} (h : ∀ x ∈ l, clE true x = 0) : lsB l = 0 := by
  unfold lsB
  have : l.find? (fun x => clE true x != 0) = none := by
    rw [List.find?_eq_none]; intro x hx; simp [h x hx]
  rw [this]
theorem lsB_at (l : List (List UInt8)) (k : Nat) (h : k < l.length) (h0 : lsB (l.take k) = 0) : lsB (l.take (k + 1)) = clE true l[k] := by
  have hall := lsB_zero h0
  unfold lsB
  rw [List.take_succ_eq_append_getElem h, List.find?_append]
  have : (l.take k).find? (fun x => clE true x != 0) = none := by
    rw [List.find?_eq_none]; intro x hx; simp [hall x hx]
  rw [this]
  by_cases c : clE true l[k] = 0
  · simp [c]
  · simp [c]
theorem lsB_more (l : List (List UInt8)) (k : Nat) (h0 : lsB (l.take k) ≠ 0) : lsB l = lsB (l.take k) := by
  unfold lsB at h0 ⊢
  conv => lhs; rw [← List.take_append_drop k l, List.find?_append]
  cases e : (l.take k).find? (fun x => clE true x != 0) with
  | none => rw [e] at h0; exact absurd rfl h0
  | some x => rfl

/- a parameter's value, written -/
def p1 (b : UInt8) : List UInt8 := if b = 10 then [94, 110] else if b = 34 then [94, 39] else if b = 94 then [94, 94] else [b]
def pm (l : List UInt8) : List UInt8 := l.flatMap p1
def qs (b : UInt8) : Bool := [58, 59, 44].contains b
def qu (l : List UInt8) : Bool := l.any qs
def pq (l : List UInt8) : List UInt8 := if qu l then 34 :: (pm l ++ [34]) else pm l
def pqT (l : List UInt8) : List UInt8 := if clE true l = 0 then pq l else []
theorem p1_feed : p1 10 = [94, 110] := rfl
theorem p1_quote : p1 34 = [94, 39] := rfl
theorem p1_caret : p1 94 = [94, 94] := rfl
theorem p1_else {b : UInt8} (h0 : b ≠ 10) (h1 : b ≠ 34) (h2 : b ≠ 94) : p1 b = [b] := by unfold p1; rw [if_neg h0, if_neg h1, if_neg h2]
theorem pm_snoc (l : List UInt8) (k : Nat) (h : k < l.length) : pm (l.take (k + 1)) = pm (l.take k) ++ p1 l[k] := by
  unfold pm; rw [List.take_succ_eq_append_getElem h, List.flatMap_append]; simp
theorem qu_snoc (l : List UInt8) (k : Nat) (h : k < l.length) : qu (l.take (k + 1)) = (qu (l.take k) || qs l[k]) := by
  unfold qu; rw [List.take_succ_eq_append_getElem h, List.any_append]; simp
theorem pm_len (l : List UInt8) : (pm l).length ≤ 2 * l.length := by
  induction l with
  | nil => simp [pm]
  | cons b l ih =>
    have : (p1 b).length ≤ 2 := by unfold p1; split <;> (try split) <;> (try split) <;> simp
    have e : pm (b :: l) = p1 b ++ pm l := by simp [pm]
    rw [e, List.length_append, List.length_cons]; omega
/- what a caret ahead of a text stands for -/
def ac : List UInt8 → Option UInt8
  | [] => none
  | d :: _ => if d = 110 then some 10 else if d = 39 then some 34 else if d = 94 then some 94 else none
/- a parameter's value, read -/
def vr (l : List UInt8) : List UInt8 :=
  match l with
  | [] => []
  | c :: r => if c = 94 then match ac r with | none => 94 :: vr r | some x => x :: vr r.tail else c :: vr r
  termination_by l.length
  decreasing_by all_goals (simp only [List.length_cons, List.length_tail]; omega)
theorem vr_nil : vr [] = [] := by rw [vr.eq_def]
theorem vr_else (c : UInt8) (r : List UInt8) (h : c ≠ 94) : vr (c :: r) = c :: vr r := by rw [vr.eq_def]; simp [h]
theorem vr_some (r : List UInt8) (x : UInt8) (h : ac r = some x) : vr (94 :: r) = x :: vr r.tail := by rw [vr.eq_def]; simp [h]
theorem vr_none (r : List UInt8) (h : ac r = none) : vr (94 :: r) = 94 :: vr r := by rw [vr.eq_def]; simp [h]
/- the quotes taken off -/
def qb (b : UInt8) : Bool := [34, 58, 59, 44].contains b
def vq (l : List UInt8) : Option (List UInt8) :=
  if l.head? = some 34 then (if l.tail.getLast? = some 34 ∧ 34 ∉ l.tail.dropLast then some l.tail.dropLast else none) else if l.any qb then none else some l
theorem vq_in {l : List UInt8} (h : l.head? = some 34) : vq l = if l.tail.getLast? = some 34 ∧ 34 ∉ l.tail.dropLast then some l.tail.dropLast else none := by unfold vq; rw [if_pos h]
theorem vq_out {l : List UInt8} (h : l.head? ≠ some 34) : vq l = if l.any qb then none else some l := by unfold vq; rw [if_neg h]
def vlR (l : List UInt8) : Option (List UInt8) := if l.any (bad false) then none else (vq l).map vr
def vlE (l : List UInt8) : Int := if validD l = false then 3 else match vlR l with | none => 7 | some _ => 0
def vlT (l : List UInt8) : List UInt8 := if validD l = false then [] else (vlR l).getD []
theorem vl_utf {l : List UInt8} (h : validD l = false) : vlE l = 3 ∧ vlT l = [] := by unfold vlE vlT; rw [if_pos h, if_pos h]; exact ⟨rfl, rfl⟩
theorem vl_none {l : List UInt8} (h : validD l = true) (h2 : vlR l = none) : vlE l = 7 ∧ vlT l = [] := by unfold vlE vlT; rw [if_neg (by simp [h]), if_neg (by simp [h]), h2]; exact ⟨rfl, rfl⟩
theorem vl_some {l t : List UInt8} (h : validD l = true) (h2 : vlR l = some t) : vlE l = 0 ∧ vlT l = t := by unfold vlE vlT; rw [if_neg (by simp [h]), if_neg (by simp [h]), h2]; exact ⟨rfl, rfl⟩
theorem vlR_bad {l : List UInt8} (h : l.any (bad false) = true) : vlR l = none := by unfold vlR; rw [if_pos h]
theorem vlR_ok {l : List UInt8} (h : l.any (bad false) = false) : vlR l = (vq l).map vr := by unfold vlR; rw [if_neg (by simp [h])]

/- there and back -/
theorem vr_pm (l : List UInt8) : vr (pm l) = l := by
  induction l with
  | nil => exact vr_nil
  | cons b l ih =>
    have e : pm (b :: l) = p1 b ++ pm l := by simp [pm]
    rw [e]
    by_cases c0 : b = 10
    · subst c0; rw [p1_feed]
      show vr (94 :: 110 :: pm l) = _
      rw [vr_some _ 10 rfl, List.tail_cons, ih]
    · by_cases c1 : b = 34
      · subst c1; rw [p1_quote]
        show vr (94 :: 39 :: pm l) = _
        rw [vr_some _ 34 rfl, List.tail_cons, ih]
      · by_cases c2 : b = 94
        · subst c2; rw [p1_caret]
          show vr (94 :: 94 :: pm l) = _
          rw [vr_some _ 94 rfl, List.tail_cons, ih]
        · rw [p1_else c0 c1 c2]
          show vr (b :: pm l) = _
          rw [vr_else _ _ c2, ih]
theorem p1_34 (b : UInt8) : 34 ∉ p1 b := by
  refine byte_ind (P := fun b => 34 ∉ p1 b) ?_ b
  decide +kernel
theorem pm_34 (l : List UInt8) : 34 ∉ pm l := by
  intro h
  obtain ⟨b, _, hb⟩ := List.mem_flatMap.1 h
  exact p1_34 b hb
theorem p1_qb (b : UInt8) (h : qs b = false) : (p1 b).any qb = false := by
  revert h
  refine byte_ind (P := fun b => qs b = false → (p1 b).any qb = false) ?_ b
  decide +kernel
theorem pm_qb (l : List UInt8) (h : qu l = false) : (pm l).any qb = false := by
  induction l with
  | nil => rfl
  | cons b l ih =>
    unfold qu at h
    rw [List.any_cons, Bool.or_eq_false_iff] at h
    have e : pm (b :: l) = p1 b ++ pm l := by simp [pm]
    rw [e, List.any_append, p1_qb b h.1, ih h.2]; rfl
theorem vq_pq (l : List UInt8) : vq (pq l) = some (pm l) := by
  unfold pq
  cases h : qu l
  · rw [if_neg (by simp), vq_out, pm_qb l h]
    · rfl
    · intro e
      exact pm_34 l (List.mem_of_head? e)
  · rw [if_pos rfl, vq_in rfl]
    have := pm_34 l
    simp [this]
theorem p1_bad (b : UInt8) (h : bad true b = false) : (p1 b).any (bad false) = false := by
  revert h
  refine byte_ind (P := fun b => bad true b = false → (p1 b).any (bad false) = false) ?_ b
  decide +kernel
theorem pm_bad (l : List UInt8) (h : l.any (bad true) = false) : (pm l).any (bad false) = false := by
  induction l with
  | nil => rfl
  | cons b l ih =>
    rw [List.any_cons, Bool.or_eq_false_iff] at h
    have e : pm (b :: l) = p1 b ++ pm l := by simp [pm]
    rw [e, List.any_append, p1_bad b h.1, ih h.2]; rfl
theorem p1_hi (b : UInt8) (h : 128 ≤ b.toNat) : p1 b = [b] := by
  revert h
  refine byte_ind (P := fun b => 128 ≤ b.toNat → p1 b = [b]) ?_ b
  decide +kernel
theorem p1_lo (b : UInt8) (h : b.toNat < 128) : ∀ x ∈ p1 b, x.toNat < 128 := by
  revert h
  refine byte_ind (P := fun b => b.toNat < 128 → ∀ x ∈ p1 b, x.toNat < 128) ?_ b
  decide +kernel
theorem pm_valid (l : List UInt8) (h : validD l = true) : validD (pm l) = true := valid_map p1 p1_hi p1_lo l h
theorem vl_pq (l : List UInt8) (h : clE true l = 0) : vlE (pq l) = 0 ∧ vlT (pq l) = l := by
  obtain ⟨h1, h2⟩ := clE_zero h
  have hv := pm_valid l h1
  have hb := pm_bad l h2
  have hb34 : bad false 34 = false := by decide
  refine vl_some ?_ ?_
  · unfold pq; split
    · rw [valid_low 34 _ (by decide), valid_cat _ _ hv, valid_low 34 _ (by decide)]; rfl
    · exact hv
  · rw [vlR_ok, vq_pq]
    · simp [vr_pm]
    · unfold pq; split
      · rw [List.any_cons, List.any_append, hb, hb34]; simp [hb34]
      · exact hb
theorem pq_len (l : List UInt8) : (pq l).length ≤ 2 * l.length + 2 := by
  have := pm_len l
  unfold pq; split
  · simp only [List.length_cons, List.length_append, List.length_nil]; omega
  · omega
end Es
end Go.Proofs.YtbfngdpdgmgfpaaDoor
namespace Go.Proofs.YtbfngdpdgmgfpaaDoor
namespace Ln
open Go.Lib _root_.Go.Proofs.YtbfngdpdgmgfpaaDoor.Fd _root_.Go.Proofs.YtbfngdpdgmgfpaaDoor.Es

abbrev Par := List UInt8 × List (List UInt8)
structure Li where
  name : List UInt8
  ps : List Par
  value : List UInt8

/- names -/
def inN (b : UInt8) : Bool := (decide (65 ≤ b.toNat) && decide (b.toNat ≤ 90)) || (decide (48 ≤ b.toNat) && decide (b.toNat ≤ 57)) || b == 45
def up (b : UInt8) : UInt8 := if 97 ≤ b.toNat ∧ b.toNat ≤ 122 then UInt8.ofNat (b.toNat - 32) else b
def nameB (s : List UInt8) : Bool := decide (0 < s.length) && decide (s.length ≤ 60) && s.all inN
theorem up_in (b : UInt8) (h : inN b = true) : up b = b := by
  revert h
  refine byte_ind (P := fun b => inN b = true → up b = b) ?_ b
  decide +kernel
theorem inN_low (b : UInt8) (h : inN b = true) : b.toNat < 128 := by
  revert h
  refine byte_ind (P := fun b => inN b = true → b.toNat < 128) ?_ b
  decide +kernel
theorem nameB_iff (s : List UInt8) : nameB s = true ↔ 0 < s.length ∧ s.length ≤ 60 ∧ s.all inN = true := by
  unfold nameB; simp only [Bool.and_eq_true, decide_eq_true_eq, and_assoc]

/- parameters, lines -/
def parB (p : Par) : Bool := nameB p.1 && decide (0 < p.2.length) && decide (p.2.length ≤ 60) && p.2.all fun v => decide (clE true v = 0)
theorem parB_iff (p : Par) : parB p = true ↔ nameB p.1 = true ∧ 0 < p.2.length ∧ p.2.length ≤ 60 ∧ ∀ v ∈ p.2, clE true v = 0 := by
  unfold parB; simp only [Bool.and_eq_true, decide_eq_true_eq, and_assoc, List.all_eq_true]
def psB (ps : List Par) : Bool := ps.all parB && decide ((ps.map Prod.fst).Nodup)
theorem psB_iff (ps : List Par) : psB ps = true ↔ (∀ p ∈ ps, parB p = true) ∧ (ps.map Prod.fst).Nodup := by
  unfold psB; simp only [Bool.and_eq_true, decide_eq_true_eq, List.all_eq_true]
theorem psB_snoc (ps : List Par) (p : Par) : psB (ps ++ [p]) = (psB ps && (parB p && !((ps.map Prod.fst).contains p.1))) := by
  rw [Bool.eq_iff_iff]
  simp only [psB_iff, Bool.and_eq_true, Bool.not_eq_true', List.contains_eq_mem, decide_eq_false_iff_not, List.map_append, List.map_cons, List.map_nil, List.nodup_append, List.mem_append, List.mem_singleton]
  constructor
  · rintro ⟨h1, h2, _, h3⟩
    refine ⟨⟨fun q hq => h1 q (.inl hq), h2⟩, h1 p (.inr rfl), fun hm => h3 _ hm _ rfl rfl⟩
  · rintro ⟨⟨h1, h2⟩, h3, h4⟩
    refine ⟨fun q hq => ?_, h2, by simp, fun a ha b hb e => ?_⟩
    · rcases hq with hq | rfl
      · exact h1 q hq
      · exact h3
    · subst hb e; exact h4 ha
theorem psB_take (ps : List Par) (k : Nat) (h : psB ps = true) : psB (ps.take k) = true := by
  rw [psB_iff] at h ⊢
  refine ⟨fun p hp => h.1 p (List.mem_of_mem_take hp), ?_⟩
  rw [List.map_take]
  exact List.Nodup.sublist (List.take_sublist _ _) h.2
theorem psB_at (ps : List Par) (k : Nat) (hk : k < ps.length) : psB (ps.take (k + 1)) = (psB (ps.take k) && (parB ps[k] && !(((ps.take k).map Prod.fst).contains ps[k].1))) := by
  rw [List.take_succ_eq_append_getElem hk, psB_snoc]
theorem psB_no (ps : List Par) (k : Nat) (h : psB (ps.take k) = false) : psB ps = false := by
  cases e : psB ps
  · rfl
  · rw [psB_take ps k e] at h; cases h
def formed (l : Li) : Bool := nameB l.name && decide (l.ps.length ≤ 60) && decide (clE false l.value = 0) && psB l.ps
theorem formed_iff (l : Li) : formed l = true ↔ nameB l.name = true ∧ l.ps.length ≤ 60 ∧ clE false l.value = 0 ∧ psB l.ps = true := by
  unfold formed; simp only [Bool.and_eq_true, decide_eq_true_eq, and_assoc]

/- what is written -/
def prV : List (List UInt8) → List UInt8
  | [] => []
  | v :: vs => pq v ++ vs.flatMap fun x => 44 :: pq x
def prP (p : Par) : List UInt8 := 59 :: (p.1 ++ 61 :: prV p.2)
def pr (l : Li) : List UInt8 := l.name ++ (l.ps.flatMap prP ++ 58 :: l.value)
theorem prV_one (v : List UInt8) : prV [v] = pq v := by simp [prV]
theorem prV_snoc (vs : List (List UInt8)) (v : List UInt8) (h : vs ≠ []) : prV (vs ++ [v]) = prV vs ++ 44 :: pq v := by
  rcases vs with _ | ⟨x, vs⟩
  · exact absurd rfl h
  · simp [prV]
theorem prV_at0 (vs : List (List UInt8)) (h : 0 < vs.length) : prV (vs.take (0 + 1)) = prV (vs.take 0) ++ pq vs[0] := by
  rw [List.take_succ_eq_append_getElem h]; simp [prV]
theorem prV_at (vs : List (List UInt8)) (k : Nat) (hk : k < vs.length) (h0 : 0 < k) : prV (vs.take (k + 1)) = prV (vs.take k) ++ 44 :: pq vs[k] := by
  rw [List.take_succ_eq_append_getElem hk, prV_snoc]
  intro e
  have := congrArg List.length e
  rw [List.length_take, List.length_nil] at this
  omega
def prE (l : Li) : Int := if formed l = false then 1 else if 2000 < (pr l).length then 4 else 0
def prT (l : Li) : List UInt8 := if prE l = 0 then pr l else []
theorem pr_no {l : Li} (h : formed l = false) : prE l = 1 ∧ prT l = [] := by
  have e : prE l = 1 := by unfold prE; rw [if_pos h]
  exact ⟨e, by unfold prT; rw [e]; rfl⟩
theorem pr_long {l : Li} (h : formed l = true) (h2 : 2000 < (pr l).length) : prE l = 4 ∧ prT l = [] := by
  have e : prE l = 4 := by unfold prE; rw [if_neg (by simp [h]), if_pos h2]
  exact ⟨e, by unfold prT; rw [e]; rfl⟩
theorem pr_ok {l : Li} (h : formed l = true) (h2 : (pr l).length ≤ 2000) : prE l = 0 ∧ prT l = pr l := by
  have e : prE l = 0 := by unfold prE; rw [if_neg (by simp [h]), if_neg (by omega)]
  exact ⟨e, by unfold prT; rw [e]; rfl⟩
theorem prE_cases (l : Li) : (prE l = 1 ∧ prT l = []) ∨ (prE l = 4 ∧ prT l = []) ∨ (prE l = 0 ∧ prT l = pr l ∧ formed l = true ∧ (pr l).length ≤ 2000) := by
  cases h : formed l
  · exact .inl (pr_no h)
  · by_cases h2 : 2000 < (pr l).length
    · exact .inr (.inl (pr_long h h2))
    · have := pr_ok h (by omega)
      exact .inr (.inr ⟨this.1, this.2, rfl, by omega⟩)

/- how much a line holds -/
def wtV (vs : List (List UInt8)) : Nat := (vs.map fun v => v.length + 1).sum
def wtP (p : Par) : Nat := p.1.length + 1 + wtV p.2
def wtPs (ps : List Par) : Nat := (ps.map wtP).sum
def wt (l : Li) : Nat := l.name.length + l.value.length + wtPs l.ps
theorem wtV_nil : wtV [] = 0 := rfl
theorem wtV_cons (v : List UInt8) (vs : List (List UInt8)) : wtV (v :: vs) = v.length + 1 + wtV vs := by simp [wtV]
theorem wtV_append (a b : List (List UInt8)) : wtV (a ++ b) = wtV a + wtV b := by simp [wtV]
theorem wtV_snoc (a : List (List UInt8)) (v : List UInt8) : wtV (a ++ [v]) = wtV a + (v.length + 1) := by simp [wtV]
theorem wtPs_nil : wtPs [] = 0 := rfl
theorem wtPs_cons (p : Par) (ps : List Par) : wtPs (p :: ps) = wtP p + wtPs ps := by simp [wtPs]
theorem wtPs_append (a b : List Par) : wtPs (a ++ b) = wtPs a + wtPs b := by simp [wtPs]
theorem wtPs_snoc (a : List Par) (p : Par) : wtPs (a ++ [p]) = wtPs a + wtP p := by simp [wtPs]
theorem wtV_len (vs : List (List UInt8)) : vs.length ≤ wtV vs := by
  induction vs with
  | nil => simp [wtV_nil]
  | cons v vs ih => rw [wtV_cons, List.length_cons]; omega
theorem wtV_mem {vs : List (List UInt8)} {v : List UInt8} (h : v ∈ vs) : v.length + 1 ≤ wtV vs := by
  induction vs with
  | nil => cases h
  | cons x vs ih =>
    rw [wtV_cons]
    rcases List.mem_cons.1 h with rfl | h
    · omega
    · have := ih h; omega
theorem wtPs_len (ps : List Par) : ps.length ≤ wtPs ps := by
  induction ps with
  | nil => simp [wtPs_nil]
  | cons p ps ih => rw [wtPs_cons, List.length_cons]; unfold wtP; omega
theorem wtPs_mem {ps : List Par} {p : Par} (h : p ∈ ps) : wtP p ≤ wtPs ps := by
  induction ps with
  | nil => cases h
  | cons x ps ih =>
    rw [wtPs_cons]
    rcases List.mem_cons.1 h with rfl | h
    · omega
    · have := ih h; omega
theorem wtV_take (vs : List (List UInt8)) (k : Nat) (hk : k < vs.length) : wtV (vs.take (k + 1)) = wtV (vs.take k) + (vs[k].length + 1) := by
  rw [List.take_succ_eq_append_getElem hk, wtV_snoc]
theorem wtPs_take (ps : List Par) (k : Nat) (hk : k < ps.length) : wtPs (ps.take (k + 1)) = wtPs (ps.take k) + wtP ps[k] := by
  rw [List.take_succ_eq_append_getElem hk, wtPs_snoc]
theorem wtV_le (vs : List (List UInt8)) (k : Nat) : wtV (vs.take k) ≤ wtV vs := by
  have := wtV_append (vs.take k) (vs.drop k)
  rw [List.take_append_drop] at this; omega
theorem wtPs_le (ps : List Par) (k : Nat) : wtPs (ps.take k) ≤ wtPs ps := by
  have := wtPs_append (ps.take k) (ps.drop k)
  rw [List.take_append_drop] at this; omega
theorem fm_len (vs : List (List UInt8)) : (vs.flatMap fun x => 44 :: pq x).length ≤ 3 * wtV vs := by
  induction vs with
  | nil => simp [wtV_nil]
  | cons v vs ih =>
    have := pq_len v
    rw [List.flatMap_cons, List.length_append, List.length_cons, wtV_cons]; omega
theorem prV_len (vs : List (List UInt8)) : (prV vs).length ≤ 3 * wtV vs := by
  rcases vs with _ | ⟨v, vs⟩
  · simp [prV]
  · have := pq_len v
    have h2 := fm_len vs
    unfold prV
    rw [List.length_append, wtV_cons]; omega
theorem prP_len (p : Par) : (prP p).length ≤ 3 * wtP p := by
  have := prV_len p.2
  unfold prP wtP
  simp only [List.length_cons, List.length_append]; omega
theorem prPs_len (ps : List Par) : (ps.flatMap prP).length ≤ 3 * wtPs ps := by
  induction ps with
  | nil => simp [wtPs_nil]
  | cons p ps ih =>
    have := prP_len p
    rw [List.flatMap_cons, List.length_append, wtPs_cons]; omega
theorem pr_len (l : Li) : (pr l).length ≤ 3 * wt l + 1 := by
  have := prPs_len l.ps
  unfold pr wt
  simp only [List.length_cons, List.length_append]; omega

/- what is read: a name -/
def nm : Nat → List UInt8 → List UInt8 × List UInt8
  | 0, r => ([], r)
  | _ + 1, [] => ([], [])
  | k + 1, c :: r => if inN (up c) then (up c :: (nm k r).1, (nm k r).2) else ([], c :: r)
theorem nm_zero (r : List UInt8) : nm 0 r = ([], r) := by cases r <;> rfl
theorem nm_nil (k : Nat) : nm k [] = ([], []) := by cases k <;> rfl
theorem nm_yes (k : Nat) (c : UInt8) (r : List UInt8) (h : inN (up c) = true) : nm (k + 1) (c :: r) = (up c :: (nm k r).1, (nm k r).2) := by simp [nm, h]
theorem nm_no (k : Nat) (c : UInt8) (r : List UInt8) (h : inN (up c) = false) : nm k (c :: r) = ([], c :: r) := by cases k <;> simp [nm, h]
theorem nm_len (k : Nat) : ∀ r : List UInt8, (nm k r).1.length ≤ k ∧ (nm k r).1.length + (nm k r).2.length = r.length ∧ (nm k r).1.all inN = true := by
  induction k with
  | zero => intro r; rw [nm_zero]; simp
  | succ k ih =>
    intro r
    rcases r with _ | ⟨c, r⟩
    · rw [nm_nil]; simp
    · cases h : inN (up c)
      · rw [nm_no _ _ _ h]; simp
      · rw [nm_yes _ _ _ h]
        obtain ⟨h1, h2, h3⟩ := ih r
        refine ⟨by simpa using h1, by simp only [List.length_cons]; omega, by simp [h, h3]⟩
theorem nm_back (n : List UInt8) : ∀ (k : Nat) (c : UInt8) (r : List UInt8), n.length ≤ k → n.all inN = true → inN (up c) = false → nm k (n ++ c :: r) = (n, c :: r) := by
  induction n with
  | nil => intro k c r _ _ hc; exact nm_no k c r hc
  | cons b n ih =>
    intro k c r hk hn hc
    rw [List.all_cons, Bool.and_eq_true] at hn
    rcases k with _ | k
    · simp at hk
    · have hb := up_in b hn.1
      rw [List.cons_append, nm_yes k b _ (by rw [hb]; exact hn.1), hb, ih k c r (by simpa using hk) hn.2 hc]

/- a parameter's value as it is written, and what is behind it -/
def sv (r : List UInt8) : Option (List UInt8 × List UInt8) :=
  if r.head? = some 34 then
    if 34 ∈ r.tail then some (34 :: (r.tail.takeWhile (· != 34) ++ [34]), (r.tail.dropWhile (· != 34)).tail) else none
  else if (r.dropWhile fun b => !qb b).head? = none ∨ (r.dropWhile fun b => !qb b).head? = some 34 then none
  else some (r.takeWhile fun b => !qb b, r.dropWhile fun b => !qb b)
theorem tw_mem (c : UInt8) (l : List UInt8) (h : c ∈ l) : l = l.takeWhile (· != c) ++ c :: (l.dropWhile (· != c)).tail := by
  conv => lhs; rw [← List.takeWhile_append_dropWhile (p := (· != c)) (l := l)]
  congr 1
  have hne : l.dropWhile (· != c) ≠ [] := by
    intro e
    have := List.takeWhile_append_dropWhile (p := (· != c)) (l := l)
    rw [e, List.append_nil] at this
    rw [← this] at h
    have ha := List.all_takeWhile (p := (· != c)) (l := l)
    rw [List.all_eq_true] at ha
    have := ha c h
    simp at this
  have := List.head_dropWhile_not (· != c) hne
  rcases hd : l.dropWhile (· != c) with _ | ⟨x, t⟩
  · exact absurd hd hne
  · simp only [hd, List.head_cons, bne_eq_false_iff_eq] at this
    rw [this]; rfl
theorem sv_app {r raw rest : List UInt8} (h : sv r = some (raw, rest)) : r = raw ++ rest := by
  unfold sv at h
  split at h
  · rename_i c
    split at h
    · rename_i d
      injection h with h
      injection h with h1 h2
      subst h1 h2
      rcases r with _ | ⟨b, r⟩
      · cases c
      · simp only [List.head?_cons, Option.some.injEq] at c
        subst c
        simp only [List.tail_cons] at d ⊢
        rw [List.cons_append, List.append_assoc]
        congr 1
        exact tw_mem 34 r d
    · cases h
  · split at h
    · cases h
    · injection h with h
      injection h with h1 h2
      subst h1 h2
      exact (List.takeWhile_append_dropWhile).symm
/- values with commas between -/
def vs (r : List UInt8) (acc : List (List UInt8)) : Option (List (List UInt8) × List UInt8) :=
  match _h : sv r with
  | none => none
  | some x => if vlE x.1 ≠ 0 then none else
    if _h2 : x.2.head? = some 44 then (if acc.length + 1 = 60 then none else vs x.2.tail (acc ++ [vlT x.1])) else some (acc ++ [vlT x.1], x.2)
  termination_by r.length
  decreasing_by
    have e := congrArg List.length (sv_app (raw := x.1) (rest := x.2) _h)
    rw [List.length_append] at e
    rcases hx : x.2 with _ | ⟨b, t⟩
    · rw [hx] at _h2; cases _h2
    · rw [hx] at e
      simp only [List.tail_cons, List.length_cons] at e ⊢
      omega
theorem vs_none {r : List UInt8} {acc : List (List UInt8)} (h : sv r = none) : vs r acc = none := by
  rw [vs.eq_def]; split
  · rfl
  · rename_i x e; rw [h] at e; cases e
theorem vs_bad {r raw rest : List UInt8} {acc : List (List UInt8)} (h : sv r = some (raw, rest)) (h2 : vlE raw ≠ 0) : vs r acc = none := by
  rw [vs.eq_def]; split
  · rfl
  · rename_i x e; rw [h] at e; injection e with e; subst e; rw [if_pos h2]
theorem vs_many {r raw rest : List UInt8} {acc : List (List UInt8)} (h : sv r = some (raw, rest)) (h2 : vlE raw = 0) (h3 : rest.head? = some 44) (h4 : acc.length + 1 = 60) : vs r acc = none := by
  rw [vs.eq_def]; split
  · rfl
  · rename_i x e; rw [h] at e; injection e with e; subst e; rw [if_neg (fun c => c h2), dif_pos h3, if_pos h4]
theorem vs_more {r raw rest : List UInt8} {acc : List (List UInt8)} (h : sv r = some (raw, rest)) (h2 : vlE raw = 0) (h3 : rest.head? = some 44) (h4 : acc.length + 1 ≠ 60) : vs r acc = vs rest.tail (acc ++ [vlT raw]) := by
  rw [vs.eq_def]; split
  · rename_i e; rw [h] at e; cases e
  · rename_i x e; rw [h] at e; injection e with e; subst e; rw [if_neg (fun c => c h2), dif_pos h3, if_neg h4]
theorem vs_end {r raw rest : List UInt8} {acc : List (List UInt8)} (h : sv r = some (raw, rest)) (h2 : vlE raw = 0) (h3 : rest.head? ≠ some 44) : vs r acc = some (acc ++ [vlT raw], rest) := by
  rw [vs.eq_def]; split
  · rename_i e; rw [h] at e; cases e
  · rename_i x e; rw [h] at e; injection e with e; subst e; rw [if_neg (fun c => c h2), dif_neg h3]
/- an induction that goes along with reading values -/
theorem vs_ind {P : List UInt8 → List (List UInt8) → Prop} (h : ∀ r acc, (∀ raw rest, sv r = some (raw, rest) → vlE raw = 0 → rest.head? = some 44 → acc.length + 1 ≠ 60 → P rest.tail (acc ++ [vlT raw])) → P r acc) : ∀ r acc, P r acc := by
  intro r
  generalize hn : r.length = n
  induction n using Nat.strongRecOn generalizing r with
  | _ n ih =>
    intro acc
    refine h r acc (fun raw rest e _ h3 _ => ?_)
    have el := congrArg List.length (sv_app e)
    rw [List.length_append] at el
    refine ih rest.tail.length ?_ rest.tail rfl _
    rcases rest with _ | ⟨b, t⟩
    · cases h3
    · simp only [List.tail_cons, List.length_cons] at el ⊢; omega
/- what a value that is read holds -/
theorem vr_len (n : Nat) : ∀ l : List UInt8, l.length ≤ n → (vr l).length ≤ l.length := by
  induction n with
  | zero => intro l h; rw [List.eq_nil_of_length_eq_zero (by omega : l.length = 0), vr_nil]; simp
  | succ n ih =>
    intro l h
    rcases l with _ | ⟨c, r⟩
    · rw [vr_nil]; simp
    · have hr : r.length ≤ n := by simpa using h
      by_cases c94 : c = 94
      · subst c94
        cases e : ac r with
        | none => rw [vr_none r e]; simpa using ih r hr
        | some x =>
          rw [vr_some r x e]
          have := ih r.tail (by rw [List.length_tail]; omega)
          simp only [List.length_cons, List.length_tail] at this ⊢; omega
      · rw [vr_else c r c94]; simpa using ih r hr
theorem vq_parts {l m : List UInt8} (h : vq l = some m) : l = m ∨ l = 34 :: (m ++ [34]) := by
  unfold vq at h
  split at h
  · rename_i c
    split at h
    · rename_i d
      injection h with h
      subst h
      right
      rcases l with _ | ⟨b, l⟩
      · cases c
      · simp only [List.head?_cons, Option.some.injEq] at c
        subst c
        simp only [List.tail_cons] at d ⊢
        congr 1
        rcases List.eq_nil_or_concat l with rfl | ⟨t, x, rfl⟩
        · simp at d
        · have := d.1
          simp only [List.concat_eq_append, List.getLast?_append, List.getLast?_singleton, Option.some_or, Option.some.injEq] at this
          subst this; simp
    · cases h
  · split at h
    · cases h
    · injection h with h; exact .inl h
theorem vl_len (raw : List UInt8) : (vlT raw).length ≤ raw.length := by
  unfold vlT
  split
  · simp
  · unfold vlR
    split
    · simp
    · cases h : vq raw with
      | none => simp
      | some m =>
        have h1 := vr_len m.length m (Nat.le_refl _)
        rcases vq_parts h with e | e
        · simp; rw [e]; exact h1
        · simp; rw [e]; simp; omega
theorem vr_run (p r : List UInt8) (h : ∀ b ∈ p, 128 ≤ b.toNat) : vr (p ++ r) = p ++ vr r := by
  induction p with
  | nil => rfl
  | cons b p ih =>
    rw [List.cons_append, vr_else, ih (fun x hx => h x (by simp [hx])), List.cons_append]
    intro e; subst e
    have := h 94 (by simp)
    revert this; decide
theorem ac_low {r : List UInt8} {x : UInt8} (h : ac r = some x) : ∃ d t, r = d :: t ∧ d.toNat < 128 ∧ x.toNat < 128 ∧ bad true x = false := by
  rcases r with _ | ⟨d, t⟩
  · cases h
  · refine ⟨d, t, rfl, ?_⟩
    simp only [ac] at h
    split at h
    · rename_i c; subst c; injection h with h; subst h; decide
    · split at h
      · rename_i c; subst c; injection h with h; subst h; decide
      · split at h
        · rename_i c; subst c; injection h with h; subst h; decide
        · cases h
theorem vr_valid (n : Nat) : ∀ l : List UInt8, l.length ≤ n → validD l = true → validD (vr l) = true := by
  induction n with
  | zero => intro l h _; rw [List.eq_nil_of_length_eq_zero (by omega : l.length = 0), vr_nil]; exact valid_nil
  | succ n ih =>
    intro l h hv
    rcases valid_cases l hv with rfl | ⟨b, r, rfl, hb, hr⟩ | ⟨p, r, rfl, hp, hp2, hr, hall⟩
    · rw [vr_nil]; exact valid_nil
    · have hl : r.length ≤ n := by simpa using h
      by_cases c94 : b = 94
      · subst c94
        cases e : ac r with
        | none => rw [vr_none r e, valid_low _ _ hb]; exact ih r hl hr
        | some x =>
          obtain ⟨d, t, rfl, hd, hx, _⟩ := ac_low e
          rw [vr_some _ x e, valid_low _ _ hx]
          rw [valid_low _ _ hd] at hr
          exact ih t (by simp at hl; omega) hr
      · rw [vr_else b r c94, valid_low _ _ hb]; exact ih r hl hr
    · rw [vr_run p r hp2, hall]
      have := List.length_pos_iff.2 hp
      exact ih r (by rw [List.length_append] at h; omega) hr
theorem bad_more (b : UInt8) (h : bad false b = false) : bad true b = false := by
  revert h
  refine byte_ind (P := fun b => bad false b = false → bad true b = false) ?_ b
  decide +kernel
theorem vr_bad (n : Nat) : ∀ l : List UInt8, l.length ≤ n → l.any (bad false) = false → (vr l).any (bad true) = false := by
  induction n with
  | zero => intro l h _; rw [List.eq_nil_of_length_eq_zero (by omega : l.length = 0), vr_nil]; rfl
  | succ n ih =>
    intro l h hb
    rcases l with _ | ⟨c, r⟩
    · rw [vr_nil]; rfl
    · rw [List.any_cons, Bool.or_eq_false_iff] at hb
      have hr : r.length ≤ n := by simpa using h
      have hc := bad_more c hb.1
      by_cases c94 : c = 94
      · subst c94
        cases e : ac r with
        | none => rw [vr_none r e, List.any_cons, hc, ih r hr hb.2]; rfl
        | some x =>
          obtain ⟨d, t, rfl, _, _, hx⟩ := ac_low e
          have h2 := hb.2
          rw [List.any_cons, Bool.or_eq_false_iff] at h2
          rw [vr_some _ x e, List.any_cons, hx, List.tail_cons, ih t (by simp at hr; omega) h2.2]; rfl
      · rw [vr_else c r c94, List.any_cons, hc, ih r hr hb.2]; rfl
theorem vl_clean {raw : List UInt8} (h : vlE raw = 0) : clE true (vlT raw) = 0 := by
  by_cases hv : validD raw = false
  · rw [(vl_utf hv).1] at h; cases h
  · have hv' : validD raw = true := by simpa using hv
    cases hR : vlR raw with
    | none => rw [(vl_none hv' hR).1] at h; cases h
    | some t =>
      rw [(vl_some hv' hR).2]
      by_cases hb : raw.any (bad false) = true
      · rw [vlR_bad hb] at hR; cases hR
      · have hb' : raw.any (bad false) = false := by simpa using hb
        rw [vlR_ok hb'] at hR
        cases hq : vq raw with
        | none => rw [hq] at hR; cases hR
        | some m =>
          rw [hq] at hR
          injection hR with hR
          subst hR
          have hm : validD m = true ∧ m.any (bad false) = false := by
            rcases vq_parts hq with e | e
            · subst e; exact ⟨hv', hb'⟩
            · rw [e] at hv' hb'
              rw [valid_low 34 _ (by decide)] at hv'
              refine ⟨(valid_split m [] 34 (by decide) hv').1, ?_⟩
              rw [List.any_cons, List.any_append, Bool.or_eq_false_iff, Bool.or_eq_false_iff] at hb'
              exact hb'.2.1
          exact clE_ok (vr_valid _ m (Nat.le_refl _) hm.1) (vr_bad _ m (Nat.le_refl _) hm.2)
theorem vs_good : ∀ (r : List UInt8) (acc : List (List UInt8)), ∀ vs' rest, vs r acc = some (vs', rest) → acc.length < 60 → (∀ v ∈ acc, clE true v = 0) →
    0 < vs'.length ∧ vs'.length ≤ 60 ∧ (∀ v ∈ vs', clE true v = 0) ∧ wtV vs' + rest.length ≤ wtV acc + r.length + 1 := by
  refine vs_ind (P := fun r acc => ∀ vs' rest, vs r acc = some (vs', rest) → acc.length < 60 → (∀ v ∈ acc, clE true v = 0) →
    0 < vs'.length ∧ vs'.length ≤ 60 ∧ (∀ v ∈ vs', clE true v = 0) ∧ wtV vs' + rest.length ≤ wtV acc + r.length + 1) ?_
  intro r acc ih vs' rest h hl hall
  cases hs : sv r with
  | none => rw [vs_none hs] at h; cases h
  | some x =>
    obtain ⟨raw, rest1⟩ := x
    have el := congrArg List.length (sv_app hs)
    rw [List.length_append] at el
    have hvl := vl_len raw
    by_cases hE : vlE raw = 0
    · have hall2 : ∀ v ∈ acc ++ [vlT raw], clE true v = 0 := by
        intro v hv
        rcases List.mem_append.1 hv with hv | hv
        · exact hall v hv
        · rw [List.mem_singleton.1 hv]; exact vl_clean hE
      by_cases hc : rest1.head? = some 44
      · by_cases h60 : acc.length + 1 = 60
        · rw [vs_many hs hE hc h60] at h; cases h
        · rw [vs_more hs hE hc h60] at h
          have h2 := ih raw rest1 hs hE hc h60 vs' rest h (by rw [List.length_append, List.length_singleton]; omega) hall2
          refine ⟨h2.1, h2.2.1, h2.2.2.1, ?_⟩
          have h3 := h2.2.2.2
          rw [wtV_snoc] at h3
          rcases rest1 with _ | ⟨b, t⟩
          · cases hc
          · simp only [List.tail_cons, List.length_cons] at h3 el; omega
      · rw [vs_end hs hE hc] at h
        injection h with h
        injection h with h1 h2
        subst h1 h2
        refine ⟨by simp, by rw [List.length_append, List.length_singleton]; omega, hall2, ?_⟩
        rw [wtV_snoc]; omega
    · rw [vs_bad hs hE] at h; cases h
theorem vs_short {r : List UInt8} {acc vs' : List (List UInt8)} {rest : List UInt8} : vs r acc = some (vs', rest) → rest.length ≤ r.length := by
  revert vs' rest
  refine vs_ind (P := fun r acc => ∀ {vs' rest}, vs r acc = some (vs', rest) → rest.length ≤ r.length) ?_ r acc
  intro r acc ih vs' rest h
  cases hs : sv r with
  | none => rw [vs_none hs] at h; cases h
  | some x =>
    obtain ⟨raw, rest1⟩ := x
    have el := congrArg List.length (sv_app hs)
    rw [List.length_append] at el
    by_cases hE : vlE raw = 0
    · by_cases hc : rest1.head? = some 44
      · by_cases h60 : acc.length + 1 = 60
        · rw [vs_many hs hE hc h60] at h; cases h
        · rw [vs_more hs hE hc h60] at h
          have h2 := ih raw rest1 hs hE hc h60 h
          rw [List.length_tail] at h2; omega
      · rw [vs_end hs hE hc] at h
        injection h with h
        injection h with h1 h2
        subst h1 h2; omega
    · rw [vs_bad hs hE] at h; cases h
/- a parameter, all parameters, a line -/
def pa (r : List UInt8) (before : List (List UInt8)) : Option (Par × List UInt8) :=
  if (nm 60 r).1 = [] then none else if (nm 60 r).2.head? ≠ some 61 then none else if before.length = 60 ∨ (nm 60 r).1 ∈ before then none
  else (vs (nm 60 r).2.tail []).map fun x => (((nm 60 r).1, x.1), x.2)
theorem pa_short {r : List UInt8} {before : List (List UInt8)} {p : Par} {rest : List UInt8} (h : pa r before = some (p, rest)) : rest.length ≤ r.length := by
  unfold pa at h
  have hl := (nm_len 60 r).2.1
  split at h
  · cases h
  · split at h
    · cases h
    · split at h
      · cases h
      · cases hv : vs (nm 60 r).2.tail [] with
        | none => rw [hv] at h; cases h
        | some x =>
          rw [hv] at h
          injection h with h
          injection h with _ h2
          have := vs_short (rest := x.2) hv
          rw [h2, List.length_tail] at this; omega
def ps (r : List UInt8) (acc : List Par) : Option (List Par × List UInt8) :=
  if _h : r.head? = some 59 then
    match _h2 : pa r.tail (acc.map Prod.fst) with
    | none => none
    | some x => ps x.2 (acc ++ [x.1])
  else some (acc, r)
  termination_by r.length
  decreasing_by
    have e := pa_short (p := x.1) (rest := x.2) _h2
    rcases hx : r with _ | ⟨b, t⟩
    · rw [hx] at _h; cases _h
    · rw [hx] at e
      simp only [List.tail_cons, List.length_cons] at e ⊢
      omega
theorem ps_end {r : List UInt8} {acc : List Par} (h : r.head? ≠ some 59) : ps r acc = some (acc, r) := by rw [ps.eq_def, dif_neg h]
theorem ps_none {r : List UInt8} {acc : List Par} (h : r.head? = some 59) (h2 : pa r.tail (acc.map Prod.fst) = none) : ps r acc = none := by
  rw [ps.eq_def, dif_pos h]; split
  · rfl
  · rename_i x e; rw [h2] at e; cases e
theorem ps_more {r : List UInt8} {acc : List Par} {p : Par} {rest : List UInt8} (h : r.head? = some 59) (h2 : pa r.tail (acc.map Prod.fst) = some (p, rest)) : ps r acc = ps rest (acc ++ [p]) := by
  rw [ps.eq_def, dif_pos h]; split
  · rename_i e; rw [h2] at e; cases e
  · rename_i x e; rw [h2] at e; injection e with e; subst e; rfl
theorem ps_ind {P : List UInt8 → List Par → Prop} (h : ∀ r acc, (∀ p rest, r.head? = some 59 → pa r.tail (acc.map Prod.fst) = some (p, rest) → P rest (acc ++ [p])) → P r acc) : ∀ r acc, P r acc := by
  intro r
  generalize hn : r.length = n
  induction n using Nat.strongRecOn generalizing r with
  | _ n ih =>
    intro acc
    refine h r acc (fun p rest h1 h2 => ?_)
    have e := pa_short h2
    refine ih rest.length ?_ rest rfl _
    rcases r with _ | ⟨b, t⟩
    · cases h1
    · simp only [List.tail_cons, List.length_cons] at e hn; omega
def rp (s : List UInt8) : Option Li :=
  if 2000 < s.length then none else if validD s = false then none else if (nm 60 s).1 = [] then none else
    match ps (nm 60 s).2 [] with
    | none => none
    | some x => if x.2.head? ≠ some 58 then none else if clE false x.2.tail ≠ 0 then none else some ⟨(nm 60 s).1, x.1, x.2.tail⟩
theorem name_ok {k : Nat} {r : List UInt8} (hk : k ≤ 60) (h : (nm k r).1 ≠ []) : nameB (nm k r).1 = true := by
  obtain ⟨h1, _, h3⟩ := nm_len k r
  rw [nameB_iff]
  exact ⟨List.length_pos_iff.2 h, by omega, h3⟩
theorem pa_good {r : List UInt8} {before : List (List UInt8)} {p : Par} {rest : List UInt8} (h : pa r before = some (p, rest)) :
    parB p = true ∧ before.length ≠ 60 ∧ p.1 ∉ before ∧ wtP p + rest.length ≤ r.length + 1 := by
  unfold pa at h
  have hl := (nm_len 60 r).2.1
  split at h
  · cases h
  · rename_i hn
    split at h
    · cases h
    · rename_i h61
      split at h
      · cases h
      · rename_i hb
        cases hv : vs (nm 60 r).2.tail [] with
        | none => rw [hv] at h; cases h
        | some x =>
          rw [hv] at h
          injection h with h
          injection h with h1 h2
          subst h1 h2
          obtain ⟨g1, g2, g3, g4⟩ := vs_good _ _ _ _ hv (by simp) (by simp)
          refine ⟨(parB_iff _).2 ⟨name_ok (Nat.le_refl _) hn, g1, g2, g3⟩, fun e => hb (.inl e), fun e => hb (.inr e), ?_⟩
          unfold wtP
          have h61' : (nm 60 r).2.head? = some 61 := by simpa using h61
          rw [wtV_nil] at g4
          rcases hx : (nm 60 r).2 with _ | ⟨b, t⟩
          · rw [hx] at h61'; cases h61'
          · rw [hx] at g4 hl
            simp only [List.tail_cons, List.length_cons] at g4 hl ⊢; omega
theorem ps_good : ∀ (r : List UInt8) (acc : List Par), ∀ ps' rest, ps r acc = some (ps', rest) → psB acc = true → acc.length ≤ 60 →
    psB ps' = true ∧ ps'.length ≤ 60 ∧ wtPs ps' + rest.length ≤ wtPs acc + r.length := by
  refine ps_ind (P := fun r acc => ∀ ps' rest, ps r acc = some (ps', rest) → psB acc = true → acc.length ≤ 60 →
    psB ps' = true ∧ ps'.length ≤ 60 ∧ wtPs ps' + rest.length ≤ wtPs acc + r.length) ?_
  intro r acc ih ps' rest h hb hl
  by_cases h59 : r.head? = some 59
  · cases hp : pa r.tail (acc.map Prod.fst) with
    | none => rw [ps_none h59 hp] at h; cases h
    | some x =>
      obtain ⟨p, rest1⟩ := x
      rw [ps_more h59 hp] at h
      obtain ⟨g1, g2, g3, g4⟩ := pa_good hp
      rw [List.length_map] at g2
      have hb2 : psB (acc ++ [p]) = true := by
        rw [psB_snoc, hb, g1]
        simpa using g3
      obtain ⟨i1, i2, i3⟩ := ih p rest1 h59 hp ps' rest h hb2 (by rw [List.length_append, List.length_singleton]; omega)
      refine ⟨i1, i2, ?_⟩
      rw [wtPs_snoc] at i3
      rcases r with _ | ⟨b, t⟩
      · cases h59
      · simp only [List.tail_cons, List.length_cons] at g4 ⊢; omega
  · rw [ps_end h59] at h
    injection h with h
    injection h with h1 h2
    subst h1 h2
    exact ⟨hb, hl, Nat.le_refl _⟩
/- what is read is formed, and holds no more than its text -/
theorem rp_good {s : List UInt8} {l : Li} (h : rp s = some l) : formed l = true ∧ wt l ≤ s.length := by
  unfold rp at h
  have hn := (nm_len 60 s).2.1
  split at h
  · cases h
  · split at h
    · cases h
    · split at h
      · cases h
      · rename_i hne
        cases hp : ps (nm 60 s).2 [] with
        | none => rw [hp] at h; cases h
        | some x =>
          rw [hp] at h
          simp only at h
          split at h
          · cases h
          · split at h
            · cases h
            · rename_i h58 hcl
              injection h with h
              subst h
              obtain ⟨g1, g2, g3⟩ := ps_good _ _ _ _ hp (by decide) (by simp)
              refine ⟨(formed_iff _).2 ⟨name_ok (Nat.le_refl _) hne, g2, by simpa using hcl, g1⟩, ?_⟩
              unfold wt
              rw [wtPs_nil] at g3
              simp only [List.length_tail]; omega
theorem rp_len {s : List UInt8} {l : Li} (h : rp s = some l) : s.length ≤ 2000 := by
  unfold rp at h
  split at h
  · cases h
  · omega
/- there and back -/
theorem tw_stop (p : UInt8 → Bool) (a : List UInt8) (d : UInt8) (r : List UInt8) (h : ∀ b ∈ a, p b = true) (hd : p d = false) : (a ++ d :: r).takeWhile p = a ∧ (a ++ d :: r).dropWhile p = d :: r := by
  induction a with
  | nil => simp [hd]
  | cons b a ih =>
    have hb := h b (by simp)
    obtain ⟨i1, i2⟩ := ih (fun x hx => h x (by simp [hx]))
    simp [hb, i1, i2]
theorem sv_pq (v : List UInt8) (d : UInt8) (r : List UInt8) (hd : qb d = true) (h34 : d ≠ 34) : sv (pq v ++ d :: r) = some (pq v, d :: r) := by
  have h34v := pm_34 v
  unfold sv pq
  cases h : qu v
  · simp only [Bool.false_eq_true, if_false]
    have hq := pm_qb v h
    have hno : ∀ b ∈ pm v, (!qb b) = true := by
      intro b hb
      rw [List.any_eq_false] at hq
      have := hq b hb
      simpa using this
    obtain ⟨e1, e2⟩ := tw_stop (fun b => !qb b) (pm v) d r hno (by simp [hd])
    rw [e1, e2, if_neg, if_neg]
    · simp [h34]
    · rcases hp : pm v with _ | ⟨b, t⟩
      · simp [h34]
      · rw [hp] at h34v
        simp only [List.cons_append, List.head?_cons, Option.some.injEq]
        intro e; subst e; exact h34v (by simp)
  · simp only [if_true, List.cons_append, List.head?_cons, List.tail_cons]
    obtain ⟨e1, e2⟩ := tw_stop (· != 34) (pm v) 34 (d :: r) (fun b hb => by simp only [bne_iff_ne, ne_eq]; rintro rfl; exact h34v hb) (by simp)
    rw [List.append_assoc, List.singleton_append, if_pos (by simp), e1, e2]
    rfl
theorem vs_back (vs0 : List (List UInt8)) : ∀ (v : List UInt8) (acc : List (List UInt8)) (d : UInt8) (r : List UInt8), acc.length + 1 + vs0.length ≤ 60 → (∀ x ∈ v :: vs0, clE true x = 0) → qb d = true → d ≠ 34 → d ≠ 44 →
    vs (pq v ++ (vs0.flatMap (fun x => 44 :: pq x) ++ d :: r)) acc = some (acc ++ v :: vs0, d :: r) := by
  induction vs0 with
  | nil =>
    intro v acc d r hl hall hd h34 h44
    obtain ⟨e1, e2⟩ := vl_pq v (hall v (by simp))
    rw [List.flatMap_nil, List.nil_append, vs_end (sv_pq v d r hd h34) e1 (by simpa using h44), e2]
  | cons x vs0 ih =>
    intro v acc d r hl hall hd h34 h44
    obtain ⟨e1, e2⟩ := vl_pq v (hall v (by simp))
    rw [List.flatMap_cons, List.cons_append, List.cons_append, vs_more (sv_pq v 44 _ rfl (by decide)) e1 rfl (by simp only [List.length_cons] at hl; omega), e2, List.tail_cons, List.append_assoc,
      ih x (acc ++ [v]) d r (by simp only [List.length_cons, List.length_append, List.length_nil] at hl ⊢; omega) (fun y hy => hall y (List.mem_cons_of_mem _ hy)) hd h34 h44]
    simp
theorem pa_back (p : Par) (before : List (List UInt8)) (d : UInt8) (r : List UInt8) (h : parB p = true) (hb : before.length ≠ 60) (hm : p.1 ∉ before) (hd : qb d = true) (h34 : d ≠ 34) (h44 : d ≠ 44) :
    pa (p.1 ++ (61 :: prV p.2 ++ d :: r)) before = some (p, d :: r) := by
  obtain ⟨h1, h2, h3, h4⟩ := (parB_iff p).1 h
  obtain ⟨n1, n2, n3⟩ := (nameB_iff p.1).1 h1
  have e := nm_back p.1 60 61 (prV p.2 ++ d :: r) n2 n3 (by decide)
  unfold pa
  rw [List.cons_append, e, if_neg (List.length_pos_iff.1 n1), if_neg (by simp), if_neg (by simp [hb, hm])]
  obtain ⟨n, vs0⟩ := p
  rcases vs0 with _ | ⟨v, vs0⟩
  · simp at h2
  · have := vs_back vs0 v [] d r (by simp only [List.length_cons, List.length_nil] at h3 ⊢; omega) h4 hd h34 h44
    simp only [List.tail_cons, prV, List.append_assoc]
    rw [this]; rfl
theorem ps_back (ps0 : List Par) : ∀ (acc : List Par) (r : List UInt8), psB (acc ++ ps0) = true → (acc ++ ps0).length ≤ 60 → ps (ps0.flatMap prP ++ 58 :: r) acc = some (acc ++ ps0, 58 :: r) := by
  induction ps0 with
  | nil => intro acc r _ _; rw [List.flatMap_nil, List.nil_append, ps_end (by simp), List.append_nil]
  | cons p ps0 ih =>
    intro acc r hb hl
    have hb1 : psB (acc ++ [p]) = true := by
      have := psB_take (acc ++ p :: ps0) (acc.length + 1) hb
      rwa [List.take_append, List.take_of_length_le (by omega), show acc.length + 1 - acc.length = 1 by omega] at this
    have hb2 := hb1
    rw [psB_snoc] at hb2
    simp only [Bool.and_eq_true, Bool.not_eq_true', List.contains_eq_mem, decide_eq_false_iff_not] at hb2
    have hl2 : (acc.map Prod.fst).length ≠ 60 := by
      rw [List.length_append, List.length_cons] at hl
      rw [List.length_map]; omega
    have key : ∀ d t, ps0.flatMap prP ++ 58 :: r = d :: t → qb d = true ∧ d ≠ 34 ∧ d ≠ 44 := by
      intro d t e
      rcases ps0 with _ | ⟨q, ps0⟩
      · simp at e; rw [← e.1]; decide
      · simp [prP] at e; rw [← e.1]; decide
    rcases hx : ps0.flatMap prP ++ 58 :: r with _ | ⟨d, t⟩
    · have := congrArg List.length hx
      simp at this
    · obtain ⟨k1, k2, k3⟩ := key d t hx
      have e := pa_back p (acc.map Prod.fst) d t hb2.2.1 hl2 hb2.2.2 k1 k2 k3
      have e2 : (p :: ps0).flatMap prP ++ 58 :: r = 59 :: (p.1 ++ (61 :: prV p.2 ++ d :: t)) := by
        rw [List.flatMap_cons, List.append_assoc, hx]
        simp [prP]
      rw [e2, ps_more (r := 59 :: (p.1 ++ (61 :: prV p.2 ++ d :: t))) rfl e, ← hx, ih (acc ++ [p]) r (by simpa using hb) (by simpa using hl)]
      simp
theorem name_low {n : List UInt8} (h : nameB n = true) : ∀ b ∈ n, b.toNat < 128 := by
  obtain ⟨_, _, h3⟩ := (nameB_iff n).1 h
  rw [List.all_eq_true] at h3
  exact fun b hb => inN_low b (h3 b hb)
theorem pq_valid (v : List UInt8) (h : clE true v = 0) : validD (pq v) = true := by
  have hv := pm_valid v (clE_zero h).1
  unfold pq; split
  · rw [valid_low 34 _ (by decide), valid_cat _ _ hv, valid_low 34 _ (by decide)]; rfl
  · exact hv
theorem fm_valid (vs0 : List (List UInt8)) (h : ∀ v ∈ vs0, clE true v = 0) (r : List UInt8) : validD (vs0.flatMap (fun x => 44 :: pq x) ++ r) = validD r := by
  induction vs0 with
  | nil => rfl
  | cons v vs0 ih =>
    rw [List.flatMap_cons, List.cons_append, List.cons_append, valid_low 44 _ (by decide), List.append_assoc, valid_cat _ _ (pq_valid v (h v (by simp)))]
    exact ih (fun x hx => h x (by simp [hx]))
theorem prP_valid (p : Par) (h : parB p = true) (r : List UInt8) : validD (prP p ++ r) = validD r := by
  obtain ⟨h1, h2, h3, h4⟩ := (parB_iff p).1 h
  unfold prP
  rw [List.cons_append, valid_low 59 _ (by decide), List.append_assoc, valid_asc _ _ (name_low h1), List.cons_append, valid_low 61 _ (by decide)]
  obtain ⟨n, vs0⟩ := p
  rcases vs0 with _ | ⟨v, vs0⟩
  · rfl
  · simp only [prV]
    rw [List.append_assoc, valid_cat _ _ (pq_valid v (h4 v (by simp)))]
    exact fm_valid vs0 (fun x hx => h4 x (by simp [hx])) r
theorem prPs_valid (ps0 : List Par) (h : ∀ p ∈ ps0, parB p = true) (r : List UInt8) : validD (ps0.flatMap prP ++ r) = validD r := by
  induction ps0 with
  | nil => rfl
  | cons p ps0 ih =>
    rw [List.flatMap_cons, List.append_assoc, prP_valid p (h p (by simp))]
    exact ih (fun x hx => h x (by simp [hx]))
/- what is written is read as the same -/
theorem rp_pr (l : Li) (h : formed l = true) (hl : (pr l).length ≤ 2000) : rp (pr l) = some l := by
  obtain ⟨h1, h2, h3, h4⟩ := (formed_iff l).1 h
  obtain ⟨n1, n2, n3⟩ := (nameB_iff l.name).1 h1
  have hv : validD (pr l) = true := by
    unfold pr
    rw [valid_asc _ _ (name_low h1), prPs_valid _ ((psB_iff _).1 h4).1, valid_low 58 _ (by decide)]
    exact (clE_zero h3).1
  have hnm : nm 60 (pr l) = (l.name, l.ps.flatMap prP ++ 58 :: l.value) := by
    have key : ∀ d t, l.ps.flatMap prP ++ 58 :: l.value = d :: t → inN (up d) = false := by
      intro d t e
      rcases hp : l.ps with _ | ⟨q, ps0⟩
      · rw [hp] at e; simp at e; rw [← e.1]; decide
      · rw [hp] at e; simp [prP] at e; rw [← e.1]; decide
    unfold pr
    rcases hx : l.ps.flatMap prP ++ 58 :: l.value with _ | ⟨d, t⟩
    · have := congrArg List.length hx
      simp at this
    · exact nm_back l.name 60 d t n2 n3 (key d t hx)
  have hps := ps_back l.ps [] l.value (by simpa using h4) (by simpa using h2)
  unfold rp
  rw [if_neg (by omega), if_neg (by simp [hv]), hnm, if_neg (List.length_pos_iff.1 n1)]
  simp only
  rw [hps]
  simp [h3]
end Ln
end Go.Proofs.YtbfngdpdgmgfpaaDoor
namespace Go.Proofs.YtbfngdpdgmgfpaaDoor
namespace Ln
open Go.Lib Es Go.Proofs.YtbfngdpdgmgfpaaDoor.Fd

inductive Tr where
  | mk (name : List UInt8) (lines : List Li) (kids : List Tr)
def Tr.name : Tr → List UInt8 | .mk n _ _ => n
def Tr.lines : Tr → List Li | .mk _ l _ => l
def Tr.kids : Tr → List Tr | .mk _ _ k => k
theorem Tr.eta (t : Tr) : Tr.mk t.name t.lines t.kids = t := by cases t; rfl
theorem Tr.kid_lt {t u : Tr} (h : u ∈ t.kids) : SizeOf.sizeOf u < SizeOf.sizeOf t := by
  cases t with
  | mk n l k =>
    have h2 : u ∈ k := h
    have := List.sizeOf_lt_of_mem h2
    simp only [Tr.mk.sizeOf_spec]; omega
/- by the nested ones -/
theorem Tr.ind {P : Tr → Prop} (h : ∀ t : Tr, (∀ u ∈ t.kids, P u) → P t) (t : Tr) : P t := by
  suffices H : ∀ n (t : Tr), SizeOf.sizeOf t ≤ n → P t from H _ t (Nat.le_refl _)
  intro n
  induction n with
  | zero => intro t ht; cases t with | mk n l k => simp at ht
  | succ n ih => exact fun t ht => h t fun u hu => ih u (by have := Tr.kid_lt hu; omega)

mutual
def cnt : Tr → Nat
  | .mk _ ls ks => ls.length + 2 + cnts ks
def cnts : List Tr → Nat
  | [] => 0
  | t :: ts => cnt t + cnts ts
end
mutual
def dep : Tr → Nat
  | .mk _ _ ks => 1 + deps ks
def deps : List Tr → Nat
  | [] => 0
  | t :: ts => max (dep t) (deps ts)
end
def bg : List UInt8 := [66, 69, 71, 73, 78]
def en : List UInt8 := [69, 78, 68]
def lnB (l : Li) : Bool := formed l && (l.name != bg && l.name != en)
theorem lnB_iff (l : Li) : lnB l = true ↔ formed l = true ∧ l.name ≠ bg ∧ l.name ≠ en := by simp [lnB]
mutual
def pf : Tr → Bool
  | .mk n ls ks => nameB n && (ls.all lnB && pfs ks)
def pfs : List Tr → Bool
  | [] => true
  | t :: ts => pf t && pfs ts
end
theorem cnt_eq (t : Tr) : cnt t = t.lines.length + 2 + cnts t.kids := by cases t; simp [cnt, Tr.lines, Tr.kids]
theorem dep_eq (t : Tr) : dep t = 1 + deps t.kids := by cases t; simp [dep, Tr.kids]
theorem pf_eq (t : Tr) : pf t = (nameB t.name && (t.lines.all lnB && pfs t.kids)) := by cases t; simp [pf, Tr.name, Tr.lines, Tr.kids]
theorem cnts_nil : cnts [] = 0 := by simp [cnts]
theorem cnts_cons (t : Tr) (ts : List Tr) : cnts (t :: ts) = cnt t + cnts ts := by simp [cnts]
theorem cnts_append (a b : List Tr) : cnts (a ++ b) = cnts a + cnts b := by
  induction a with
  | nil => simp [cnts]
  | cons t a ih => simp [cnts, ih]; omega
theorem deps_append (a b : List Tr) : deps (a ++ b) = max (deps a) (deps b) := by
  induction a with
  | nil => simp [deps]
  | cons t a ih => simp only [List.cons_append, deps, ih]; omega
theorem pfs_append (a b : List Tr) : pfs (a ++ b) = (pfs a && pfs b) := by
  induction a with
  | nil => simp [pfs]
  | cons t a ih => simp [pfs, ih, Bool.and_assoc]
theorem cnts_take (ts : List Tr) (k : Nat) (hk : k < ts.length) : cnts (ts.take (k + 1)) = cnts (ts.take k) + cnt ts[k] := by
  rw [List.take_succ_eq_append_getElem hk, cnts_append]; simp [cnts]
theorem deps_take (ts : List Tr) (k : Nat) (hk : k < ts.length) : deps (ts.take (k + 1)) = max (deps (ts.take k)) (dep ts[k]) := by
  rw [List.take_succ_eq_append_getElem hk, deps_append]; simp [deps]
theorem pfs_take (ts : List Tr) (k : Nat) (hk : k < ts.length) : pfs (ts.take (k + 1)) = (pfs (ts.take k) && pf ts[k]) := by
  rw [List.take_succ_eq_append_getElem hk, pfs_append]; simp [pfs]
theorem cnts_le (ts : List Tr) (k : Nat) : cnts (ts.take k) ≤ cnts ts := by
  have := congrArg cnts (List.take_append_drop k ts)
  rw [cnts_append] at this; omega
theorem deps_le (ts : List Tr) (k : Nat) : deps (ts.take k) ≤ deps ts := by
  have := congrArg deps (List.take_append_drop k ts)
  rw [deps_append] at this; omega
theorem pfs_le (ts : List Tr) (k : Nat) (h : pfs (ts.take k) = false) : pfs ts = false := by
  have := congrArg pfs (List.take_append_drop k ts)
  rw [pfs_append, h] at this; simpa using this.symm
theorem cnts_mem {ts : List Tr} {t : Tr} (h : t ∈ ts) : cnt t ≤ cnts ts := by
  induction ts with
  | nil => cases h
  | cons u ts ih =>
    rw [cnts_cons]
    rcases List.mem_cons.1 h with rfl | h
    · omega
    · have := ih h; omega
theorem pfs_mem {ts : List Tr} {t : Tr} (h : t ∈ ts) (hp : pfs ts = true) : pf t = true := by
  induction ts with
  | nil => cases h
  | cons u ts ih =>
    simp only [pfs, Bool.and_eq_true] at hp
    rcases List.mem_cons.1 h with rfl | h
    · exact hp.1
    · exact ih h hp.2
theorem cnt_pos (t : Tr) : 2 ≤ cnt t := by rw [cnt_eq]; omega
theorem dep_pos (t : Tr) : 1 ≤ dep t := by rw [dep_eq]; omega
theorem cnts_len (ts : List Tr) : ts.length * 2 ≤ cnts ts := by
  induction ts with
  | nil => simp [cnts]
  | cons t ts ih => rw [cnts_cons, List.length_cons]; have := cnt_pos t; omega
/- valid components -/
def fmT (t : Tr) : Bool := decide (dep t ≤ 4) && decide (cnt t ≤ 300) && pf t
theorem fmT_iff (t : Tr) : fmT t = true ↔ dep t ≤ 4 ∧ cnt t ≤ 300 ∧ pf t = true := by simp [fmT, and_assoc]

/- the lines of a component -/
mutual
def tl : Tr → List Li
  | .mk n ls ks => ⟨bg, [], n⟩ :: (ls ++ (tls ks ++ [⟨en, [], n⟩]))
def tls : List Tr → List Li
  | [] => []
  | t :: ts => tl t ++ tls ts
end
theorem tl_eq (t : Tr) : tl t = ⟨bg, [], t.name⟩ :: (t.lines ++ (tls t.kids ++ [⟨en, [], t.name⟩])) := by cases t; simp [tl, Tr.name, Tr.lines, Tr.kids]
theorem tls_append (a b : List Tr) : tls (a ++ b) = tls a ++ tls b := by
  induction a with
  | nil => simp [tls]
  | cons t a ih => simp [tls, ih]
theorem tls_take (ts : List Tr) (k : Nat) (hk : k < ts.length) : tls (ts.take (k + 1)) = tls (ts.take k) ++ tl ts[k] := by
  rw [List.take_succ_eq_append_getElem hk, tls_append]; simp [tls]
theorem tl_len (t : Tr) : (tl t).length = cnt t := by
  induction t using Tr.ind with
  | h t ih =>
    have hk : ∀ ks : List Tr, (∀ u ∈ ks, (tl u).length = cnt u) → (tls ks).length = cnts ks := by
      intro ks
      induction ks with
      | nil => intro _; simp [tls, cnts]
      | cons u ks ih2 =>
        intro h
        simp only [tls, cnts, List.length_append]
        rw [h u (by simp), ih2 (fun x hx => h x (by simp [hx]))]
    rw [tl_eq, cnt_eq]
    simp [hk _ ih]; omega
/- the first error of printing the lines -/
def lsE : List Li → Int
  | [] => 0
  | l :: r => if prE l = 0 then lsE r else prE l
theorem lsE_append (a b : List Li) : lsE (a ++ b) = if lsE a = 0 then lsE b else lsE a := by
  induction a with
  | nil => simp [lsE]
  | cons l a ih =>
    simp only [List.cons_append, lsE, ih]
    by_cases h : prE l = 0
    · simp [h]
    · simp [h]
theorem lsE_take (ls : List Li) (k : Nat) (hk : k < ls.length) (h : lsE (ls.take k) = 0) : lsE (ls.take (k + 1)) = prE ls[k] := by
  rw [List.take_succ_eq_append_getElem hk, lsE_append, if_pos h]
  by_cases h2 : prE ls[k] = 0
  · simp [lsE, h2]
  · simp [lsE, h2]
theorem lsE_no (ls : List Li) (k : Nat) (h : lsE (ls.take k) ≠ 0) : lsE ls = lsE (ls.take k) := by
  have := congrArg lsE (List.take_append_drop k ls)
  rw [lsE_append, if_neg h] at this; exact this.symm
theorem lsE_mem {ls : List Li} {l : Li} (h : lsE ls = 0) (hl : l ∈ ls) : prE l = 0 := by
  induction ls with
  | nil => cases hl
  | cons x ls ih =>
    unfold lsE at h
    split at h
    · rename_i hx
      rcases List.mem_cons.1 hl with rfl | hl
      · exact hx
      · exact ih h hl
    · exact absurd h (by assumption)
theorem lsE_formed (ls : List Li) (h : ∀ l ∈ ls, formed l = true) : lsE ls = 0 ∨ lsE ls = 4 := by
  induction ls with
  | nil => exact .inl rfl
  | cons l ls ih =>
    unfold lsE
    split
    · exact ih (fun x hx => h x (by simp [hx]))
    · rename_i hx
      rcases prE_cases l with ⟨h1, _⟩ | ⟨h1, _⟩ | ⟨h1, _⟩
      · have := h l (by simp)
        unfold prE at h1
        rw [if_neg (by simp [this])] at h1
        split at h1 <;> simp at h1
      · exact .inr h1
      · exact absurd h1 hx
/- BEGIN and END of a component whose name is one -/
theorem nm_clean {n : List UInt8} (h : nameB n = true) : clE false n = 0 := by
  have hl := name_low h
  have ha := ((nameB_iff n).1 h).2.2
  refine clE_ok (by have := valid_asc n [] hl; rwa [List.append_nil] at this) ?_
  rw [List.any_eq_false]
  intro b hb
  have h1 := List.all_eq_true.1 ha b hb
  unfold inN at h1
  unfold bad
  simp only [Bool.or_eq_true, Bool.and_eq_true, decide_eq_true_eq, beq_iff_eq] at h1
  have h45 : b = 45 → b.toNat = 45 := fun e => by rw [e]; rfl
  simp
  constructor
  · intro e
    have : b.toNat = 127 := by rw [e]; rfl
    rcases h1 with (h1 | h1) | h1
    · omega
    · omega
    · have := h45 h1; omega
  · intro h32
    rcases h1 with (h1 | h1) | h1
    · omega
    · omega
    · have := h45 h1; omega
theorem bgl_formed {n : List UInt8} (h : nameB n = true) : formed ⟨bg, [], n⟩ = true := by
  rw [formed_iff]
  exact ⟨(by decide : nameB bg = true), by simp, nm_clean h, (by decide : psB [] = true)⟩
theorem enl_formed {n : List UInt8} (h : nameB n = true) : formed ⟨en, [], n⟩ = true := by
  rw [formed_iff]
  exact ⟨(by decide : nameB en = true), by simp, nm_clean h, (by decide : psB [] = true)⟩
theorem pr_bg (n : List UInt8) : pr ⟨bg, [], n⟩ = bg ++ 58 :: n := by simp [pr]
theorem pr_en (n : List UInt8) : pr ⟨en, [], n⟩ = en ++ 58 :: n := by simp [pr]
theorem bgl_ok {n : List UInt8} (h : nameB n = true) : prE ⟨bg, [], n⟩ = 0 :=
  (pr_ok (bgl_formed h) (by have := ((nameB_iff n).1 h).2.1; simp [pr, bg]; omega)).1
theorem enl_ok {n : List UInt8} (h : nameB n = true) : prE ⟨en, [], n⟩ = 0 :=
  (pr_ok (enl_formed h) (by have := ((nameB_iff n).1 h).2.1; simp [pr, en]; omega)).1
theorem tl_formed (t : Tr) : pf t = true → ∀ l ∈ tl t, formed l = true := by
  induction t using Tr.ind with
  | h t ih =>
    intro hp
    rw [pf_eq] at hp
    simp only [Bool.and_eq_true] at hp
    obtain ⟨h1, h2, h3⟩ := hp
    have hk : ∀ ks : List Tr, (∀ u ∈ ks, pf u = true → ∀ l ∈ tl u, formed l = true) → pfs ks = true → ∀ l ∈ tls ks, formed l = true := by
      intro ks
      induction ks with
      | nil => intro _ _ l hl; simp [tls] at hl
      | cons u ks ih2 =>
        intro h hq l hl
        simp only [pfs, Bool.and_eq_true] at hq
        simp only [tls, List.mem_append] at hl
        rcases hl with hl | hl
        · exact h u (by simp) hq.1 l hl
        · exact ih2 (fun x hx => h x (by simp [hx])) hq.2 l hl
    intro l hl
    rw [tl_eq] at hl
    simp only [List.mem_cons, List.mem_append, List.not_mem_nil, or_false] at hl
    rcases hl with rfl | hl | hl | rfl
    · exact bgl_formed h1
    · exact ((lnB_iff l).1 (List.all_eq_true.1 h2 l hl)).1
    · exact hk _ ih h3 l hl
    · exact enl_formed h1
/- what Print returns -/
def tx (t : Tr) : List (List UInt8) := (tl t).map pr
def ptE (t : Tr) : Int := if fmT t = false then 1 else if lsE (tl t) ≠ 0 then lsE (tl t) else foldE (tx t)
def ptT (t : Tr) : List UInt8 := if ptE t = 0 then all (tx t) else []
theorem pt_no {t : Tr} (h : fmT t = false) : ptE t = 1 ∧ ptT t = [] := by
  have : ptE t = 1 := by unfold ptE; rw [if_pos h]
  exact ⟨this, by unfold ptT; rw [this]; rfl⟩
theorem pt_line {t : Tr} (h : fmT t = true) (h2 : lsE (tl t) ≠ 0) : ptE t = lsE (tl t) ∧ ptT t = [] := by
  have : ptE t = lsE (tl t) := by unfold ptE; rw [if_neg (by simp [h]), if_pos h2]
  exact ⟨this, by unfold ptT; rw [this, if_neg h2]⟩
theorem pt_fold {t : Tr} (h : fmT t = true) (h2 : lsE (tl t) = 0) : ptE t = foldE (tx t) ∧ ptT t = foldT (tx t) := by
  have : ptE t = foldE (tx t) := by unfold ptE; rw [if_neg (by simp [h]), if_neg (by simp [h2])]
  exact ⟨this, by unfold ptT foldT; rw [this]⟩

/- a printed line may be folded -/
theorem bad_eol {b : UInt8} (h : bad false b = false) : b ≠ 13 ∧ b ≠ 10 := by
  constructor <;> (rintro rfl; revert h; decide)
theorem fm_bad (vs0 : List (List UInt8)) (h : ∀ v ∈ vs0, clE true v = 0) : (vs0.flatMap fun x => 44 :: pq x).any (bad false) = false := by
  rw [List.any_eq_false]
  intro b hb
  obtain ⟨v, hv, hb⟩ := List.mem_flatMap.1 hb
  have hm := pm_bad v (clE_zero (h v hv)).2
  rw [List.any_eq_false] at hm
  rcases List.mem_cons.1 hb with rfl | hb
  · decide
  · unfold pq at hb
    split at hb
    · simp only [List.mem_cons, List.mem_append, List.not_mem_nil, or_false] at hb
      rcases hb with rfl | hb | rfl
      · decide
      · exact hm b hb
      · decide
    · exact hm b hb
theorem name_bad {n : List UInt8} (h : nameB n = true) : n.any (bad false) = false := (clE_zero (nm_clean h)).2
theorem prV_bad (vs0 : List (List UInt8)) (h : ∀ v ∈ vs0, clE true v = 0) : (prV vs0).any (bad false) = false := by
  cases vs0 with
  | nil => simp [prV]
  | cons v vs0 =>
    have h1 := fm_bad [v] (fun x hx => h x (by simp at hx; simp [hx]))
    have h2 := fm_bad vs0 (fun x hx => h x (by simp [hx]))
    simp only [List.flatMap_cons, List.flatMap_nil, List.append_nil, List.any_cons, Bool.or_eq_false_iff] at h1
    simp only [prV, List.any_append, Bool.or_eq_false_iff]
    exact ⟨h1.2, h2⟩
theorem pr_bad (l : Li) (h : formed l = true) : (pr l).any (bad false) = false := by
  obtain ⟨h1, _, h3, h4⟩ := (formed_iff l).1 h
  have hps := ((psB_iff l.ps).1 h4).1
  have hf : (l.ps.flatMap prP).any (bad false) = false := by
    rw [List.any_eq_false]
    intro b hb
    obtain ⟨p, hp, hb⟩ := List.mem_flatMap.1 hb
    obtain ⟨g1, _, _, g4⟩ := (parB_iff p).1 (hps p hp)
    have e1 := name_bad g1
    have e2 := prV_bad p.2 g4
    rw [List.any_eq_false] at e1 e2
    unfold prP at hb
    simp only [List.mem_cons, List.mem_append] at hb
    rcases hb with rfl | hb | rfl | hb
    · decide
    · exact e1 b hb
    · decide
    · exact e2 b hb
  unfold pr
  rw [List.any_append, List.any_append, name_bad h1, hf, List.any_cons, (clE_zero h3).2]
  decide
theorem pr_fine (l : Li) (h : formed l = true) : fine (pr l) = true := by
  have hb := pr_bad l h
  rw [List.any_eq_false] at hb
  obtain ⟨h1, _⟩ := (formed_iff l).1 h
  have h2 := (nameB_iff _).1 h1
  have hc : ∀ b ∈ pr l, (b != 13 && b != 10) = true := fun b hb2 => by
    have := bad_eol (by simpa using hb b hb2)
    simp [this.1, this.2]
  unfold fine
  obtain ⟨c, r, e⟩ : ∃ c r, l.name = c :: r := by
    cases hn : l.name with
    | nil => rw [hn] at h2; simp at h2
    | cons c r => exact ⟨c, r, rfl⟩
  have hin : inN c = true := List.all_eq_true.1 h2.2.2 c (by rw [e]; simp)
  have hpr : pr l = c :: (r ++ (l.ps.flatMap prP ++ 58 :: l.value)) := by unfold pr; rw [e]; rfl
  have hct : ct (pr l) = false := by
    rw [hpr]
    unfold ct
    simp only [List.head?_cons]
    unfold inN at hin
    simp only [Bool.or_eq_true, Bool.and_eq_true, decide_eq_true_eq, beq_iff_eq] at hin
    have h45 : c = 45 → c.toNat = 45 := fun e => by rw [e]; rfl
    have h32 : c = 32 → c.toNat = 32 := fun e => by rw [e]; rfl
    have h9 : c = 9 → c.toNat = 9 := fun e => by rw [e]; rfl
    simp
    constructor
    · intro e2
      have := h32 e2
      rcases hin with (hin | hin) | hin
      · omega
      · omega
      · have := h45 hin; omega
    · intro e2
      have := h9 e2
      rcases hin with (hin | hin) | hin
      · omega
      · omega
      · have := h45 hin; omega
  rw [hct, List.all_eq_true.2 hc, hpr]
  rfl
theorem pr_validD (l : Li) (h : formed l = true) (hl : (pr l).length ≤ 2000) : validD (pr l) = true := by
  have h1 := rp_pr l h hl
  unfold rp at h1
  cases hv : validD (pr l) with
  | true => rfl
  | false => rw [if_neg (by omega), if_pos hv] at h1; cases h1
theorem ptE_cases (t : Tr) (h : fmT t = true) : ptE t = 0 ∨ ptE t = 4 := by
  have hf := tl_formed t ((fmT_iff t).1 h).2.2
  by_cases h2 : lsE (tl t) = 0
  · rw [(pt_fold h h2).1]
    unfold foldE
    have : (tx t).all fine = true := by
      unfold tx
      rw [List.all_map, List.all_eq_true]
      exact fun l hl => pr_fine l (hf l hl)
    rw [if_neg (by simp [this])]
    split
    · exact .inr rfl
    · exact .inl rfl
  · rw [(pt_line h h2).1]
    rcases lsE_formed _ hf with h3 | h3
    · exact absurd h3 h2
    · exact .inr h3
end Ln
end Go.Proofs.YtbfngdpdgmgfpaaDoor
namespace Go.Proofs.YtbfngdpdgmgfpaaDoor
namespace Ln
open Go.Lib Es Go.Proofs.YtbfngdpdgmgfpaaDoor.Fd

/- the open components, the innermost first; or the whole one -/
inductive St where
  | op (l : List Tr)
  | done (t : Tr)
def upp (s : List UInt8) : List UInt8 := s.map up
def addK (o : List Tr) (t : Tr) : St :=
  match o with
  | [] => .done t
  | u :: r => .op (.mk u.name u.lines (u.kids ++ [t]) :: r)
def stp (o : List Tr) (l : Li) : Option St :=
  match o with
  | [] => if l.name = bg ∧ l.ps = [] ∧ nameB (upp l.value) = true then some (.op [.mk (upp l.value) [] []]) else none
  | t :: r =>
    if l.name = bg then
      if l.ps = [] ∧ nameB (upp l.value) = true ∧ (t :: r).length < 4 then some (.op (.mk (upp l.value) [] [] :: t :: r)) else none
    else if l.name = en then
      if l.ps = [] ∧ nameB (upp l.value) = true ∧ t.name = upp l.value then some (addK r t) else none
    else if t.kids = [] then some (.op (.mk t.name (t.lines ++ [l]) t.kids :: r)) else none
def St.step : St → Li → Option St
  | .op o, l => stp o l
  | .done _, _ => none
def run : List Li → St → Option St
  | [], s => some s
  | l :: r, s => match s.step l with
    | none => none
    | some s' => run r s'
theorem run_append (a b : List Li) : ∀ s, run (a ++ b) s = (run a s).bind (run b) := by
  induction a with
  | nil => intro s; rfl
  | cons l a ih =>
    intro s
    simp only [List.cons_append, run]
    cases s.step l with
    | none => rfl
    | some s' => exact ih s'
theorem upp_name {n : List UInt8} (h : nameB n = true) : upp n = n := by
  have h1 := ((nameB_iff n).1 h).2.2
  unfold upp
  have h2 : n.map up = n.map id := List.map_congr_left fun b hb => up_in b (List.all_eq_true.1 h1 b hb)
  rw [h2, List.map_id]
theorem run_lines (n : List UInt8) (r : List Tr) (ls : List Li) : ∀ l0 : List Li, (∀ l ∈ ls, lnB l = true) → run ls (.op (.mk n l0 [] :: r)) = some (.op (.mk n (l0 ++ ls) [] :: r)) := by
  induction ls with
  | nil => intro l0 _; simp [run]
  | cons l ls ih =>
    intro l0 h
    obtain ⟨_, h2, h3⟩ := (lnB_iff l).1 (h l (by simp))
    have h4 := ih (l0 ++ [l]) (fun x hx => h x (by simp [hx]))
    rw [List.append_assoc] at h4
    simpa [run, St.step, stp, h2, h3, Tr.kids, Tr.name, Tr.lines] using h4
/- what is written is read as the same -/
theorem run_tl (t : Tr) : ∀ o : List Tr, pf t = true → dep t + o.length ≤ 4 → run (tl t) (.op o) = some (addK o t) := by
  induction t using Tr.ind with
  | h t ih =>
    intro o hp hd
    have hk : ∀ (ks : List Tr) (n : List UInt8) (ls : List Li) (k0 : List Tr), (∀ u ∈ ks, ∀ o : List Tr, pf u = true → dep u + o.length ≤ 4 → run (tl u) (.op o) = some (addK o u)) → pfs ks = true → deps ks + (o.length + 1) ≤ 4 →
        run (tls ks) (.op (.mk n ls k0 :: o)) = some (.op (.mk n ls (k0 ++ ks) :: o)) := by
      intro ks
      induction ks with
      | nil => intro n ls k0 _ _ _; simp [tls, run]
      | cons u ks ih2 =>
        intro n ls k0 h hq hd2
        simp only [pfs, Bool.and_eq_true] at hq
        simp only [deps] at hd2
        rw [tls, run_append, h u (by simp) _ hq.1 (by simp only [List.length_cons]; omega)]
        have h3 := ih2 n ls (k0 ++ [u]) (fun x hx => h x (by simp [hx])) hq.2 (by omega)
        rw [List.append_assoc] at h3
        simpa [addK, Tr.name, Tr.lines, Tr.kids] using h3
    rw [pf_eq] at hp
    simp only [Bool.and_eq_true] at hp
    obtain ⟨h1, h2, h3⟩ := hp
    rw [dep_eq] at hd
    have hu := upp_name h1
    have hn1 : en ≠ bg := by decide
    have hbeg : St.step (.op o) ⟨bg, [], t.name⟩ = some (.op (.mk t.name [] [] :: o)) := by
      cases o with
      | nil => simp [St.step, stp, hu, h1]
      | cons u r =>
        have : (u :: r).length < 4 := by omega
        simp only [List.length_cons] at this
        simp [St.step, stp, hu, h1]; omega
    rw [tl_eq, run, hbeg]
    show run _ _ = _
    rw [run_append, run_lines _ _ _ _ (fun l hl => List.all_eq_true.1 h2 l hl), Option.bind_some, run_append, List.nil_append, hk _ _ _ _ ih h3 (by omega), Option.bind_some, List.nil_append, Tr.eta]
    cases o with
    | nil => simp [run, St.step, stp, hu, h1, hn1, addK]
    | cons u r => simp [run, St.step, stp, hu, h1, hn1, addK]
/- what is read: the first k texts -/
def rdL : List (List UInt8) → Option (List Li)
  | [] => some []
  | s :: r => match rp s with
    | none => none
    | some l => (rdL r).map (l :: ·)
def stK (ts : List (List UInt8)) : Option St := if 300 < ts.length then none else (rdL ts).bind fun ls => run ls (.op [])
def prs (s : List UInt8) : Option Tr :=
  if (unf s).2.2 ≠ 0 then none else match stK (unf s).1 with
    | some (.done t) => some t
    | _ => none
theorem rdL_append (a b : List (List UInt8)) : rdL (a ++ b) = (rdL a).bind fun x => (rdL b).map (x ++ ·) := by
  induction a with
  | nil => simp [rdL]
  | cons s a ih =>
    simp only [List.cons_append, rdL, ih]
    cases rp s with
    | none => rfl
    | some l =>
      cases rdL a with
      | none => rfl
      | some x => cases rdL b <;> simp
theorem rdL_tx (ls : List Li) (h : ∀ l ∈ ls, formed l = true ∧ (pr l).length ≤ 2000) : rdL (ls.map pr) = some ls := by
  induction ls with
  | nil => rfl
  | cons l ls ih =>
    have h1 := h l (by simp)
    simp [rdL, rp_pr l h1.1 h1.2, ih (fun x hx => h x (by simp [hx]))]
theorem stK_nil : stK [] = some (.op []) := by simp [stK, rdL, run]
theorem stK_take (ts : List (List UInt8)) (k : Nat) (hk : k < ts.length) : stK (ts.take (k + 1)) = (stK (ts.take k)).bind fun s => (rp ts[k]).bind fun l => if 300 ≤ k then none else s.step l := by
  rw [List.take_succ_eq_append_getElem hk]
  have hl : (ts.take k).length = k := by rw [List.length_take]; omega
  unfold stK
  rw [List.length_append, hl]
  by_cases h3 : 300 ≤ k
  · rw [if_pos (by simp; omega)]
    cases (if 300 < k then none else (rdL (ts.take k)).bind fun ls => run ls (.op [])) with
    | none => rfl
    | some s => cases rp ts[k] <;> simp [h3]
  · rw [if_neg (by simp; omega), if_neg (by omega), rdL_append]
    cases rdL (ts.take k) with
    | none => rfl
    | some x =>
      simp only [rdL, Option.bind_some]
      cases rp ts[k] with
      | none =>
        simp
      | some l =>
        simp only [Option.map_some, Option.bind_some, run_append]
        cases run x (.op []) with
        | none => simp
        | some s =>
          simp only [Option.bind_some, h3, if_false, run]
          cases s.step l <;> simp
theorem stK_no (ts : List (List UInt8)) (k : Nat) (h : stK (ts.take k) = none) : stK ts = none := by
  unfold stK at h ⊢
  split
  · rfl
  · rename_i h3
    rw [if_neg (by rw [List.length_take]; omega)] at h
    have := rdL_append (ts.take k) (ts.drop k)
    rw [List.take_append_drop] at this
    rw [this]
    cases h2 : rdL (ts.take k) with
    | none => rfl
    | some x =>
      rw [h2] at h
      simp only [Option.bind_some] at h ⊢
      cases rdL (ts.drop k) with
      | none => rfl
      | some y => simp only [Option.map_some, Option.bind_some, run_append, h]; rfl
/- what is printed is read as the same -/
theorem prs_back (t : Tr) (h : ptE t = 0) : prs (all (tx t)) = some t := by
  cases hf : fmT t with
  | false => rw [(pt_no hf).1] at h; cases h
  | true =>
    obtain ⟨h1, h2, h3⟩ := (fmT_iff t).1 hf
    by_cases hl : lsE (tl t) = 0
    · rw [(pt_fold hf hl).1] at h
      have hfo := tl_formed t h3
      have hln : ∀ l ∈ tl t, formed l = true ∧ (pr l).length ≤ 2000 := fun l hm => by
        have := lsE_mem hl hm
        rcases prE_cases l with ⟨g, _⟩ | ⟨g, _⟩ | ⟨_, _, g1, g2⟩
        · rw [g] at this; cases this
        · rw [g] at this; cases this
        · exact ⟨g1, g2⟩
      have hu := unf_all (tx t) h (fun x hx => by
        obtain ⟨l, hm, rfl⟩ := List.mem_map.1 hx
        exact pr_validD l (hln l hm).1 (hln l hm).2)
      unfold prs
      rw [hu, if_neg (by simp)]
      unfold stK
      have hz : (tx t).length = cnt t := by unfold tx; rw [List.length_map, tl_len]
      rw [if_neg (by simp only [hz]; omega)]
      have hr : rdL (tx t) = some (tl t) := rdL_tx (tl t) hln
      rw [hr, Option.bind_some, run_tl t [] h3 (by simpa using h1)]
      rfl
    · rw [(pt_line hf hl).1] at h; exact absurd h hl
/- what is read is valid -/
def tot : List Tr → Nat
  | [] => 0
  | t :: r => 1 + t.lines.length + cnts t.kids + tot r
def Inv : List Tr → Prop
  | [] => True
  | t :: r => nameB t.name = true ∧ (∀ l ∈ t.lines, lnB l = true) ∧ pfs t.kids = true ∧ deps t.kids + (r.length + 1) ≤ 4 ∧ Inv r
def SInv (k : Nat) : St → Prop
  | .op o => Inv o ∧ tot o = k
  | .done t => fmT2 t k
where fmT2 (t : Tr) (k : Nat) : Prop := pf t = true ∧ dep t ≤ 4 ∧ cnt t = k
theorem Inv.len {o : List Tr} (h : Inv o) : o.length ≤ 4 := by
  cases o with
  | nil => simp
  | cons t r => obtain ⟨_, _, _, h4, _⟩ := h; simp only [List.length_cons]; omega
theorem step_inv {o : List Tr} {l : Li} {s : St} {k : Nat} (hl : formed l = true) (h : Inv o) (hk : tot o = k) (hs : stp o l = some s) : SInv (k + 1) s := by
  cases o with
  | nil =>
    simp only [stp] at hs
    split at hs
    · rename_i hc
      injection hs with hs
      subst hs
      refine ⟨⟨hc.2.2, by simp [Tr.lines], by simp [Tr.kids, pfs], by simp [Tr.kids, deps], trivial⟩, ?_⟩
      simp only [tot] at hk
      simp [tot, Tr.lines, Tr.kids, cnts]; omega
    · cases hs
  | cons t r =>
    simp only [stp] at hs
    obtain ⟨h1, h2, h3, h4, h5⟩ := h
    simp only [tot] at hk
    split at hs
    · split at hs
      · rename_i hc
        injection hs with hs
        subst hs
        obtain ⟨_, c2, c3⟩ := hc
        simp only [List.length_cons] at c3
        refine ⟨⟨c2, by simp [Tr.lines], by simp [Tr.kids, pfs], ?_, h1, h2, h3, h4, h5⟩, ?_⟩
        · simp [Tr.kids, deps]; omega
        · simp [tot, Tr.lines, Tr.kids, cnts]; simp only [Tr.lines, Tr.kids] at hk; omega
      · cases hs
    · split at hs
      · split at hs
        · rename_i hc
          injection hs with hs
          subst hs
          have hpt : pf t = true := by rw [pf_eq]; simp [h1, h3, List.all_eq_true.2 h2]
          have hct := cnt_eq t
          have hdt := dep_eq t
          cases r with
          | nil =>
            refine ⟨hpt, ?_, ?_⟩
            · simp only [List.length_nil] at h4; omega
            · simp only [tot] at hk; omega
          | cons u r =>
            obtain ⟨g1, g2, g3, g4, g5⟩ := h5
            simp only [List.length_cons] at h4
            refine ⟨⟨g1, g2, ?_, ?_, g5⟩, ?_⟩
            · simp only [Tr.kids]; rw [pfs_append]; simp [Tr.kids] at g3; simp [pfs, hpt, g3]
            · simp only [Tr.kids] at g4 ⊢; rw [deps_append]; simp only [deps]; omega
            · simp only [tot, Tr.lines, Tr.kids] at hk hct ⊢; rw [cnts_append]; simp only [cnts]; omega
        · cases hs
      · split at hs
        · rename_i n1 n2 hk0
          injection hs with hs
          subst hs
          refine ⟨⟨h1, ?_, h3, h4, h5⟩, ?_⟩
          · intro x hx
            simp only [Tr.lines, List.mem_append, List.mem_singleton] at hx
            rcases hx with hx | rfl
            · exact h2 x hx
            · exact (lnB_iff x).2 ⟨hl, n1, n2⟩
          · simp only [tot, Tr.lines, Tr.kids, List.length_append, List.length_singleton] at hk ⊢; omega
        · cases hs
theorem stK_inv (ts : List (List UInt8)) {s : St} (h : stK ts = some s) : SInv ts.length s := by
  suffices H : ∀ k, k ≤ ts.length → ∀ s, stK (ts.take k) = some s → SInv k s by
    have := H ts.length (Nat.le_refl _) s
    rw [List.take_length] at this
    exact this h
  intro k
  induction k with
  | zero => intro _ s hs; rw [List.take_zero, stK_nil] at hs; injection hs with hs; subst hs; exact ⟨trivial, rfl⟩
  | succ k ih =>
    intro hk s hs
    rw [stK_take ts k (by omega)] at hs
    cases h1 : stK (ts.take k) with
    | none => rw [h1] at hs; cases hs
    | some s1 =>
      rw [h1, Option.bind_some] at hs
      cases h2 : rp ts[k] with
      | none => rw [h2] at hs; cases hs
      | some l =>
        rw [h2, Option.bind_some] at hs
        split at hs
        · cases hs
        · cases s1 with
          | done t => cases hs
          | op o =>
            have := ih (by omega) _ h1
            exact step_inv (rp_good h2).1 this.1 this.2 hs
theorem prs_good {s : List UInt8} {t : Tr} (h : prs s = some t) : fmT t = true := by
  unfold prs at h
  split at h
  · cases h
  · cases h1 : stK (unf s).1 with
    | none => rw [h1] at h; cases h
    | some x =>
      rw [h1] at h
      cases x with
      | op o => cases h
      | done u =>
        injection h with h
        subst h
        obtain ⟨g1, g2, g3⟩ := stK_inv _ h1
        have hn : (unf s).1.length ≤ 300 := by
          unfold stK at h1
          split at h1
          · cases h1
          · omega
        exact (fmT_iff u).2 ⟨g2, by omega, g1⟩
end Ln
end Go.Proofs.YtbfngdpdgmgfpaaDoor
