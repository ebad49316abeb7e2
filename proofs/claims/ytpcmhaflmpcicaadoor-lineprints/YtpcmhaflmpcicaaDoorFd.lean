/- Plain mathematics of code points and of folding lines: no model in it. -/
import Derived.Lib.ValidU
namespace Go.Proofs.YtpcmhaflmpcicaaDoor
namespace Fd
open Go.Lib

/- the width of what counts as one at the head of a text; nx: 0 where that is no code point -/
def wd (l : List UInt8) : Nat := (decodeL l).2
def nx (l : List UInt8) : Nat := if (decodeL l).1 = 65533 ∧ (decodeL l).2 = 1 then 0 else (decodeL l).2

theorem wd_pos (l : List UInt8) : 1 ≤ wd l := decodeL_width l
theorem decN_le (n b0 b1 b2 b3 : Nat) (hn : 1 ≤ n) : (decodeN n b0 b1 b2 b3).2 ≤ n ∧ (decodeN n b0 b1 b2 b3).2 ≤ 4 := by
  unfold decodeN
  repeat' split
  all_goals (simp only; omega)
theorem wd_le4 (l : List UInt8) : wd l ≤ 4 := by
  unfold wd decodeL; rw [decode_at]
  by_cases h : 1 ≤ (ByteArray.mk l.toArray).size - 0
  · exact (decN_le _ _ _ _ _ h).2
  · have : (ByteArray.mk l.toArray).size - 0 = 0 := by omega
    rw [this]
    unfold decodeN
    repeat' split
    all_goals (simp only; omega)
theorem wd_le (l : List UInt8) (h : l ≠ []) : wd l ≤ l.length := by
  have h1 := List.length_pos_iff.2 h
  have h2 : (ByteArray.mk l.toArray).size = l.length := by simp [ByteArray.size]
  unfold wd decodeL; rw [decode_at, h2]
  exact (decN_le _ _ _ _ _ (by omega)).1
theorem nx_max (l : List UInt8) : max 1 (nx l) = wd l := by
  have := wd_pos l
  unfold nx wd at *
  split
  · omega
  · omega
theorem nx_cases (l : List UInt8) : (nx l = 0 ∧ wd l = 1) ∨ (nx l = wd l) := by
  unfold nx wd
  split
  · rename_i h; exact .inl ⟨rfl, h.2⟩
  · exact .inr rfl

/- UTF-8, text by text -/
theorem validGo_fuel : ∀ (n m : Nat) (l : List UInt8), l.length ≤ n → l.length ≤ m → validGoD n l = validGoD m l := by
  intro n
  induction n with
  | zero =>
    intro m l h _
    have : l = [] := List.eq_nil_of_length_eq_zero (by omega)
    subst this
    cases m <;> simp [validGoD]
  | succ n ih =>
    intro m l h h'
    cases m with
    | zero =>
      have : l = [] := List.eq_nil_of_length_eq_zero (by omega)
      subst this
      simp [validGoD]
    | succ m =>
      simp only [validGoD]
      split
      · rfl
      · rename_i hl
        split
        · rfl
        · have h1 := decodeL_width l
          have h2 := List.length_pos_iff.2 hl
          exact ih m _ (by rw [List.length_drop]; omega) (by rw [List.length_drop]; omega)
theorem valid_nil : validD [] = true := rfl
theorem valid_step (l : List UInt8) (h : l ≠ []) : validD l = if nx l = 0 then false else validD (l.drop (nx l)) := by
  have h1 := decodeL_width l
  have h2 := List.length_pos_iff.2 h
  unfold validD nx
  rw [show l.length = (l.length - 1) + 1 by omega]
  simp only [validGoD, if_neg h]
  by_cases c : (decodeL l).1 = 65533 ∧ (decodeL l).2 = 1
  · simp [c]
  · rw [if_neg c, if_neg c, if_neg (by omega)]
    exact validGo_fuel _ _ _ (by rw [List.length_drop]; omega) (by rw [List.length_drop]; omega)

/- how many bytes of whole code points fit into a room -/
def fit (room : Nat) (l : List UInt8) : Nat :=
  if _h : l = [] then 0 else if room < wd l then 0 else wd l + fit (room - wd l) (l.drop (wd l))
  termination_by l.length
  decreasing_by
    have h1 := wd_pos l
    have h2 := List.length_pos_iff.2 _h
    simp only [List.length_drop]; omega
theorem fit_nil (room : Nat) : fit room [] = 0 := by rw [fit]; simp
theorem fit_small (room : Nat) (l : List UInt8) (h : room < wd l) : fit room l = 0 := by
  rw [fit]; split
  · rfl
  · rfl
theorem fit_step (room : Nat) (l : List UInt8) (h : l ≠ []) (h' : wd l ≤ room) : fit room l = wd l + fit (room - wd l) (l.drop (wd l)) := by
  rw [fit]; rw [dif_neg h, if_neg (by omega)]
theorem fit_le (room : Nat) (l : List UInt8) : fit room l ≤ l.length ∧ fit room l ≤ room := by
  generalize hn : l.length = n
  induction n using Nat.strongRecOn generalizing l room with
  | _ n ih =>
    by_cases h : l = []
    · subst h; rw [fit_nil]; omega
    · by_cases c : room < wd l
      · rw [fit_small _ _ c]; omega
      · rw [fit_step _ _ h (by omega)]
        have h1 := wd_pos l
        have h2 := wd_le l h
        have h3 := List.length_pos_iff.2 h
        have := ih (l.drop (wd l)).length (by rw [List.length_drop]; omega) (room - wd l) (l.drop (wd l)) rfl
        rw [List.length_drop] at this
        omega
theorem fit_pos (room : Nat) (l : List UInt8) (h : l ≠ []) (hr : 4 ≤ room) : 1 ≤ fit room l := by
  have := wd_le4 l
  have h1 := wd_pos l
  rw [fit_step _ _ h (by omega)]; omega

/- a line folded, from a width on, without its last end -/
def rf (w : Nat) (l : List UInt8) : List UInt8 :=
  if _h : l = [] then [] else if 75 < w + wd l then 13 :: 10 :: 32 :: (l.take (wd l) ++ rf (1 + wd l) (l.drop (wd l))) else l.take (wd l) ++ rf (w + wd l) (l.drop (wd l))
  termination_by l.length
  decreasing_by
    all_goals (have h1 := wd_pos l; have h2 := List.length_pos_iff.2 _h; simp only [List.length_drop]; omega)
theorem rf_nil (w : Nat) : rf w [] = [] := by rw [rf]; simp
theorem rf_new (w : Nat) (l : List UInt8) (h : l ≠ []) (c : 75 < w + wd l) : rf w l = 13 :: 10 :: 32 :: (l.take (wd l) ++ rf (1 + wd l) (l.drop (wd l))) := by
  rw [rf, dif_neg h, if_pos c]
theorem rf_same (w : Nat) (l : List UInt8) (h : l ≠ []) (c : w + wd l ≤ 75) : rf w l = l.take (wd l) ++ rf (w + wd l) (l.drop (wd l)) := by
  rw [rf, dif_neg h, if_neg (by omega)]
theorem rf_new_eq (w : Nat) (l : List UInt8) (h : l ≠ []) (c : 75 < w + wd l) : rf w l = 13 :: 10 :: 32 :: rf 1 l := by
  have := wd_le4 l
  rw [rf_new w l h c, rf_same 1 l h (by omega)]
theorem rf_len (w : Nat) (l : List UInt8) : (rf w l).length ≤ 4 * l.length := by
  generalize hn : l.length = n
  induction n using Nat.strongRecOn generalizing l w with
  | _ n ih =>
    by_cases h : l = []
    · subst h; rw [rf_nil]; simp
    · have h1 := wd_pos l
      have h2 := wd_le l h
      have h3 := List.length_pos_iff.2 h
      have i := fun w' => ih (l.drop (wd l)).length (by rw [List.length_drop]; omega) w' (l.drop (wd l)) rfl
      have i1 := i (1 + wd l)
      have i2 := i (w + wd l)
      simp only [List.length_drop] at i1 i2
      by_cases c : 75 < w + wd l
      · rw [rf_new w l h c]
        simp only [List.length_cons, List.length_append, List.length_take]; omega
      · rw [rf_same w l h (by omega)]
        simp only [List.length_append, List.length_take]; omega

/- what stands behind the first n bytes of a piece's line -/
def rest (l : List UInt8) (n : Nat) : List UInt8 := if n < l.length then 13 :: 10 :: 32 :: rf 1 (l.drop n) else []
theorem rf_fit (w : Nat) (l : List UInt8) (hw : w ≤ 75) : rf w l = l.take (fit (75 - w) l) ++ rest l (fit (75 - w) l) := by
  generalize hn : l.length = n
  induction n using Nat.strongRecOn generalizing l w with
  | _ n ih =>
    by_cases h : l = []
    · subst h; rw [rf_nil, fit_nil]; simp [rest]
    · have h1 := wd_pos l
      have h2 := wd_le l h
      have h3 := List.length_pos_iff.2 h
      by_cases c : 75 < w + wd l
      · rw [fit_small _ _ (by omega), rf_new_eq w l h c]
        simp [rest, h3]
      · rw [fit_step _ _ h (by omega), rf_same w l h (by omega), ih (l.drop (wd l)).length (by rw [List.length_drop]; omega) (w + wd l) (l.drop (wd l)) (by omega) rfl,
          show 75 - (w + wd l) = 75 - w - wd l by omega, ← List.append_assoc, ← List.take_add]
        congr 1
        unfold rest
        simp only [List.length_drop, List.drop_drop]
        by_cases d : fit (75 - w - wd l) (l.drop (wd l)) < l.length - wd l
        · rw [if_pos d, if_pos (by omega)]
        · rw [if_neg d, if_neg (by omega)]
theorem rest_step (l : List UInt8) (n : Nat) (h : n < l.length) : rest l n = 13 :: 10 :: 32 :: ((l.drop n).take (fit 74 (l.drop n)) ++ rest (l.drop n) (fit 74 (l.drop n))) := by
  rw [rest, if_pos h, rf_fit 1 (l.drop n) (by omega)]
theorem rest_end (l : List UInt8) (n : Nat) (h : ¬ n < l.length) : rest l n = [] := by rw [rest, if_neg h]

/- all lines folded -/
def line (l : List UInt8) : List UInt8 := rf 0 l ++ [13, 10]
def all (ls : List (List UInt8)) : List UInt8 := ls.flatMap line
theorem line_eq (l : List UInt8) : line l = l.take (fit 75 l) ++ rest l (fit 75 l) ++ [13, 10] := by rw [line, rf_fit 0 l (by omega)]
theorem line_len (l : List UInt8) : (line l).length ≤ 4 * l.length + 2 := by
  have := rf_len 0 l
  simp only [line, List.length_append, List.length_cons, List.length_nil]; omega
theorem all_snoc (ls : List (List UInt8)) (l : List UInt8) : all (ls ++ [l]) = all ls ++ line l := by simp [all]
theorem all_take_succ (ls : List (List UInt8)) (k : Nat) (h : k < ls.length) : all (ls.take (k + 1)) = all (ls.take k) ++ line ls[k] := by
  rw [List.take_succ_eq_append_getElem h, all_snoc]
theorem all_mono (ls : List (List UInt8)) (k : Nat) : (all (ls.take k)).length ≤ (all ls).length := by
  have e : all ls = all (ls.take k) ++ all (ls.drop k) := by unfold all; rw [← List.flatMap_append, List.take_append_drop]
  rw [e, List.length_append]; omega

/- which lines may be folded -/
def ct (p : List UInt8) : Bool := p.head? == some 32 || p.head? == some 9
def fine (l : List UInt8) : Bool := !l.isEmpty && !ct l && l.all fun b => b != 13 && b != 10
/- what Fold answers: an error's number (0: none) and a text -/
def long (ls : List (List UInt8)) : Bool := ls.any (fun l => decide (2000 < l.length)) || decide (20000 < (all ls).length)
def foldE (ls : List (List UInt8)) : Int := if ls.all fine = false then 5 else if long ls then 4 else 0
def foldT (ls : List (List UInt8)) : List UInt8 := if foldE ls = 0 then all ls else []
theorem long_take (ls : List (List UInt8)) (k : Nat) (h : long (ls.take k) = true) : long ls = true := by
  unfold long at *
  rw [Bool.or_eq_true] at *
  rcases h with h | h
  · left
    rw [List.any_eq_true] at *
    obtain ⟨x, hx, h⟩ := h
    exact ⟨x, List.mem_of_mem_take hx, h⟩
  · right
    have := all_mono ls k
    simp only [decide_eq_true_eq] at *
    omega
theorem long_succ (ls : List (List UInt8)) (k : Nat) (h : k < ls.length) (h0 : long (ls.take k) = false) :
    long (ls.take (k + 1)) = (decide (2000 < ls[k].length) || decide (20000 < (all (ls.take (k + 1))).length)) := by
  unfold long at *
  rw [Bool.or_eq_false_iff] at h0
  rw [List.take_succ_eq_append_getElem h, List.any_append, h0.1]
  simp

/- the width of what is written, byte by byte -/
def wok : Nat → List UInt8 → Bool
  | _, [] => true
  | w, b :: r => (decide ((if b = 10 then 0 else w + 1) < 76) || (decide ((if b = 10 then 0 else w + 1) = 76) && b == 13)) && wok (if b = 10 then 0 else w + 1) r
theorem wok_clean : ∀ (c r : List UInt8) (w : Nat), (c.all fun b => b != 13 && b != 10) = true → w + c.length ≤ 75 → wok w (c ++ r) = wok (w + c.length) r
  | [], r, w, _, _ => by simp
  | b :: c, r, w, h, hw => by
    simp only [List.all_cons, Bool.and_eq_true, bne_iff_ne, ne_eq] at h
    simp only [List.length_cons] at hw
    have i := wok_clean c r (w + 1) (by simpa using h.2) (by omega)
    simp only [List.cons_append, wok, if_neg h.1.2]
    rw [i, show w + (b :: c).length = w + 1 + c.length by simp; omega]
    have : decide (w + 1 < 76) = true := by simp; omega
    simp [this]
theorem wok_end (r : List UInt8) (w : Nat) (hw : w ≤ 75) : wok w (13 :: 10 :: r) = wok 0 r := by
  simp only [wok]
  have h1 : ¬ (13 : UInt8) = 10 := by decide
  rw [if_neg h1]
  rcases Nat.lt_or_ge (w + 1) 76 with h | h
  · simp [h]
  · have : w + 1 = 76 := by omega
    simp [this]
theorem wok_new (r : List UInt8) (w : Nat) (hw : w ≤ 75) : wok w (13 :: 10 :: 32 :: r) = wok 1 r := by
  rw [wok_end _ w hw]
  simp only [wok]
  have h1 : ¬ (32 : UInt8) = 10 := by decide
  rw [if_neg h1]; simp
theorem wok_rf (w : Nat) (l r : List UInt8) (hw : w ≤ 75) (h : (l.all fun b => b != 13 && b != 10) = true) : wok w (rf w l ++ 13 :: 10 :: r) = wok 0 r := by
  generalize hn : l.length = n
  induction n using Nat.strongRecOn generalizing l w with
  | _ n ih =>
    by_cases hl : l = []
    · subst hl; rw [rf_nil]; exact wok_end r w hw
    · have h1 := wd_pos l
      have h2 := wd_le l hl
      have h4 := wd_le4 l
      have h3 := List.length_pos_iff.2 hl
      have ht : ((l.take (wd l)).all fun b => b != 13 && b != 10) = true := by
        rw [List.all_eq_true] at h ⊢; exact fun x hx => h x (List.mem_of_mem_take hx)
      have hd : ((l.drop (wd l)).all fun b => b != 13 && b != 10) = true := by
        rw [List.all_eq_true] at h ⊢; exact fun x hx => h x (List.mem_of_mem_drop hx)
      have i := fun w' (hw' : w' ≤ 75) => ih (l.drop (wd l)).length (by rw [List.length_drop]; omega) w' (l.drop (wd l)) hw' hd rfl
      have el : (l.take (wd l)).length = wd l := by rw [List.length_take]; omega
      by_cases c : 75 < w + wd l
      · rw [rf_new w l hl c]
        simp only [List.cons_append, List.append_assoc]
        rw [wok_new _ w hw, wok_clean _ _ 1 ht (by omega), el]
        exact i (1 + wd l) (by omega)
      · rw [rf_same w l hl (by omega), List.append_assoc, wok_clean _ _ w ht (by omega), el]
        exact i (w + wd l) (by omega)
theorem fine_clean {l : List UInt8} (h : fine l = true) : (l.all fun b => b != 13 && b != 10) = true := by
  unfold fine at h; rw [Bool.and_eq_true] at h; exact h.2
theorem wok_all (ls : List (List UInt8)) (h : ls.all fine = true) : wok 0 (all ls) = true := by
  induction ls with
  | nil => rfl
  | cons l ls ih =>
    simp only [List.all_cons, Bool.and_eq_true] at h
    have e : all (l :: ls) = rf 0 l ++ 13 :: 10 :: all ls := by simp [all, line]
    rw [e, wok_rf 0 l _ (by omega) (fine_clean h.1)]
    exact ih h.2
end Fd
end Go.Proofs.YtpcmhaflmpcicaaDoor
