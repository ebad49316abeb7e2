/- The texts RcSet, RcIns, RcLr, RcCps, one behind the other. -/
import Derived.Test.YtleeklcpbflfhaaGreatDoorZE
import Derived.Test.YtleeklcpbflfhaaGreatDoorZA
import Derived.Test.YtleeklcpbflfhaaGreatDoorZD
namespace Go.Proofs.YtleeklcpbflfhaaGreatDoor
open Go.RowKit

theorem heap_setCell_same {w : World} {b o : Nat} {v : Value} {cur : Array Value} {t : TypeId} {fr : Nat × Nat} (h : w.heap[b]? = some (.cells cur t fr)) :
    (w.setCell ⟨b, o, none⟩ v).heap[b]? = some (.cells (cur.setIfInBounds o v) t fr) := by
  simp only [World.setCell, Array.getElem?_modify]
  rw [if_pos trivial, h]
  rfl
theorem heap_setCells_same (b : Nat) (t : TypeId) (fr : Nat × Nat) : ∀ (vs : List Value) (o : Nat) (w : World) (cur : Array Value), w.heap[b]? = some (.cells cur t fr) → o + vs.length ≤ cur.size →
    ∃ cur' : Array Value, (w.setCells b o vs).heap[b]? = some (.cells cur' t fr) ∧ cur'.size = cur.size ∧ cur'.toList = cur.toList.take o ++ vs ++ cur.toList.drop (o + vs.length)
  | [], o, w, cur, h, ho => ⟨cur, h, rfl, by simp⟩
  | v :: vs, o, w, cur, h, ho => by
    rw [List.length_cons] at ho
    obtain ⟨c2, h2, hs, hl⟩ := heap_setCells_same b t fr vs (o + 1) (w.setCell ⟨b, o, none⟩ v) _ (heap_setCell_same h) (by rw [Array.size_setIfInBounds]; omega)
    refine ⟨c2, h2, by rw [hs, Array.size_setIfInBounds], ?_⟩
    rw [hl, Array.toList_setIfInBounds, List.length_cons, List.drop_set_of_lt (by omega)]
    have e1 : (cur.toList.set o v).take (o + 1) = cur.toList.take o ++ [v] := by
      rw [List.take_add_one, List.take_set_of_le (Nat.le_refl _), List.getElem?_set_self (by rw [Array.length_toList]; omega)]
      rfl
    rw [e1, show o + 1 + vs.length = o + (vs.length + 1) by omega]
    simp
/- a row of n places owned, a value put in at place i with room: (w.setCells .. the tail one place on).setCells .. the value -/
theorem own_shift {w : World} {B g n c i : Nat} {e : TypeId} {cur : Array Value} {xs : List Value} {v : Value} (hB : B ≤ g) (hh : w.heap[g]? = some (.cells cur e (0, 0))) (hnc : n + 1 ≤ c) (hc : c ≤ maxLen) (hs : cur.size = c * 1) (hx : cur.toList.take n = xs) (hi : i ≤ n) (hl : xs.length = n) :
    World.ownsRow ((w.setCells g (i + 1) (xs.drop i)).setCells g i [v]) B e 1 (.slice (some ⟨g, 0, none⟩) (n + 1) c) (n + 1) (xs.take i ++ v :: xs.drop i) := by
  obtain ⟨c1, h1, s1, l1⟩ := heap_setCells_same g e (0, 0) (xs.drop i) (i + 1) w cur hh (by rw [List.length_drop]; omega)
  obtain ⟨c2, h2, s2, l2⟩ := heap_setCells_same g e (0, 0) [v] i _ c1 h1 (by rw [s1, List.length_singleton]; omega)
  refine ⟨by simp; omega, .inr ⟨g, c, c2, rfl, hB, h2, hnc, hc, by rw [s2, s1, hs], ?_⟩⟩
  have ht : cur.toList.take i = xs.take i := by rw [← hx, List.take_take, Nat.min_eq_left hi]
  have hcl : cur.toList.length = c := by rw [Array.length_toList]; omega
  have l1a : c1.toList.take i = xs.take i := by
    rw [l1, List.append_assoc, List.take_append_of_le_length (by rw [List.length_take]; omega), List.take_take, Nat.min_eq_left (by omega), ht]
  have l1b : c1.toList.drop (i + 1) = xs.drop i ++ cur.toList.drop (n + 1) := by
    rw [l1, List.append_assoc, List.drop_append_of_le_length (by rw [List.length_take]; omega), List.drop_of_length_le (by rw [List.length_take]; omega), List.nil_append, List.length_drop]
    congr 2
    omega
  rw [l2, l1a, List.length_singleton, l1b, Nat.mul_one]
  have e1 : xs.take i ++ [v] ++ (xs.drop i ++ cur.toList.drop (n + 1)) = (xs.take i ++ v :: xs.drop i) ++ cur.toList.drop (n + 1) := by simp
  rw [e1, List.take_append_of_le_length (by simp; omega), List.take_of_length_le (by simp; omega)]
end Go.Proofs.YtleeklcpbflfhaaGreatDoor
namespace Go.Proofs.YtleeklcpbflfhaaGreatDoor
namespace Rm

theorem ins_sr_iff {l : List Int} : l.Pairwise (fun x y => x < y) ↔ ∀ (a b : Nat) (x y : Int), a < b → l[a]? = some x → l[b]? = some y → x < y := by
  rw [List.pairwise_iff_getElem]
  constructor
  · intro h a b x y hab hx hy
    obtain ⟨ha, rfl⟩ := List.getElem?_eq_some_iff.1 hx
    obtain ⟨hb, rfl⟩ := List.getElem?_eq_some_iff.1 hy
    exact h a b ha hb hab
  · intro h a b ha hb hab
    exact h a b _ _ hab (List.getElem?_eq_getElem ha) (List.getElem?_eq_getElem hb)
theorem ins_at : ∀ (l : List Int) (P : Nat) (t : Int), l.Pairwise (fun x y => x < y) → P ≤ l.length → (∀ (k : Nat) (x : Int), k < P → l[k]? = some x → x < t) → (∀ (k : Nat) (x : Int), P ≤ k → l[k]? = some x → t ≤ x) →
    (l[P]? = some t → ins l t = l) ∧ (¬ l[P]? = some t → ins l t = l.take P ++ t :: l.drop P)
  | [], P, t, _, hP, _, _ => by
    have : P = 0 := by simpa using hP
    subst this
    exact ⟨fun h => by simp at h, fun _ => rfl⟩
  | x :: l, 0, t, hs, _, _, h2 => by
    have hx := h2 0 x (Nat.le_refl _) rfl
    have hl : ∀ y ∈ l, x < y := fun y hy => List.rel_of_pairwise_cons hs hy
    have hf : ∀ y ∈ l, (y != t) = true := fun y hy => by
      have h := hl y hy
      rw [bne_iff_ne]
      rintro rfl
      omega
    constructor
    · intro h
      have e : x = t := by simpa using h
      subst e
      rw [ins, if_pos hx, List.filter_cons_of_neg (by simp), List.filter_eq_self.2 hf]
    · intro h
      have e : x ≠ t := by simpa using h
      rw [ins, if_pos hx, List.filter_cons_of_pos (by simpa using e), List.filter_eq_self.2 hf]
      rfl
  | x :: l, P + 1, t, hs, hP, h1, h2 => by
    have hx := h1 0 x (Nat.succ_pos _) rfl
    obtain ⟨i1, i2⟩ := ins_at l P t (List.Pairwise.of_cons hs) (by simpa using hP) (fun k y hk e => h1 (k + 1) y (by omega) (by simpa using e)) (fun k y hk e => h2 (k + 1) y (by omega) (by simpa using e))
    rw [List.getElem?_cons_succ, ins, if_neg (by omega), List.take_succ_cons, List.drop_succ_cons, List.cons_append]
    exact ⟨fun h => by rw [i1 h], fun h => by rw [i2 h]⟩
theorem ins_keep (l : List Int) (P : Nat) (t : Int) (hs : l.Pairwise (fun x y => x < y)) (hP : P ≤ l.length) (h1 : ∀ (k : Nat) (x : Int), k < P → l[k]? = some x → x < t) (h2 : ∀ (k : Nat) (x : Int), P ≤ k → l[k]? = some x → t ≤ x) :
    (ins l t).Pairwise (fun x y => x < y) := by
  obtain ⟨i1, i2⟩ := ins_at l P t hs hP h1 h2
  by_cases h : l[P]? = some t
  · rw [i1 h]
    exact hs
  · rw [i2 h, List.pairwise_append]
    have m1 : ∀ x ∈ l.take P, x < t := fun x hx => by
      obtain ⟨k, hk, rfl⟩ := List.mem_iff_getElem.1 hx
      rw [List.getElem_take]
      rw [List.length_take] at hk
      exact h1 k _ (by omega) (List.getElem?_eq_getElem (by omega))
    have m2 : ∀ y ∈ l.drop P, t < y := fun y hy => by
      obtain ⟨k, hk, rfl⟩ := List.mem_iff_getElem.1 hy
      rw [List.getElem_drop]
      rw [List.length_drop] at hk
      have ha := h2 (P + k) _ (by omega) (List.getElem?_eq_getElem (show P + k < l.length by omega))
      have hne : ¬ l[P + k]'(by omega) = t := by
        intro e
        rcases Nat.eq_zero_or_pos k with rfl | hk0
        · exact h (by rw [← e]; exact List.getElem?_eq_getElem (show P + 0 < l.length by omega))
        · have hb := ins_sr_iff.1 hs P (P + k) _ _ (by omega) (List.getElem?_eq_getElem (show P < l.length by omega)) (List.getElem?_eq_getElem (show P + k < l.length by omega))
          have hc := h2 P _ (Nat.le_refl _) (List.getElem?_eq_getElem (show P < l.length by omega))
          rw [e] at hb
          omega
      omega
    refine ⟨hs.sublist (List.take_sublist _ _), List.pairwise_cons.2 ⟨m2, hs.sublist (List.drop_sublist _ _)⟩, fun x hx y hy => ?_⟩
    rcases List.mem_cons.1 hy with rfl | hy
    · exact m1 x hx
    · exact Int.lt_trans (m1 x hx) (m2 y hy)
theorem ins_len (l : List Int) (P : Nat) (t : Int) (hs : l.Pairwise (fun x y => x < y)) (hP : P ≤ l.length) (h1 : ∀ (k : Nat) (x : Int), k < P → l[k]? = some x → x < t) (h2 : ∀ (k : Nat) (x : Int), P ≤ k → l[k]? = some x → t ≤ x) :
    (ins l t).length ≤ l.length + 1 := by
  obtain ⟨i1, i2⟩ := ins_at l P t hs hP h1 h2
  by_cases h : l[P]? = some t
  · rw [i1 h]; omega
  · rw [i2 h, List.length_append, List.length_cons, List.length_take, List.length_drop]; omega

theorem insD_sr_iff {l : List (Int × Int)} : l.Pairwise (fun x y => bef x y = true) ↔ ∀ (a b : Nat) (x y : (Int × Int)), a < b → l[a]? = some x → l[b]? = some y → bef x y = true := by
  rw [List.pairwise_iff_getElem]
  constructor
  · intro h a b x y hab hx hy
    obtain ⟨ha, rfl⟩ := List.getElem?_eq_some_iff.1 hx
    obtain ⟨hb, rfl⟩ := List.getElem?_eq_some_iff.1 hy
    exact h a b ha hb hab
  · intro h a b ha hb hab
    exact h a b _ _ hab (List.getElem?_eq_getElem ha) (List.getElem?_eq_getElem hb)
theorem insD_at : ∀ (l : List (Int × Int)) (P : Nat) (t : (Int × Int)), l.Pairwise (fun x y => bef x y = true) → P ≤ l.length → (∀ (k : Nat) (x : (Int × Int)), k < P → l[k]? = some x → bef x t = true) → (∀ (k : Nat) (x : (Int × Int)), P ≤ k → l[k]? = some x → bef x t = false) →
    (l[P]? = some t → insD l t = l) ∧ (¬ l[P]? = some t → insD l t = l.take P ++ t :: l.drop P)
  | [], P, t, _, hP, _, _ => by
    have : P = 0 := by simpa using hP
    subst this
    exact ⟨fun h => by simp at h, fun _ => rfl⟩
  | x :: l, 0, t, hs, _, _, h2 => by
    have hx := h2 0 x (Nat.le_refl _) rfl
    have hl : ∀ y ∈ l, bef x y = true := fun y hy => List.rel_of_pairwise_cons hs hy
    have hf : ∀ y ∈ l, (y != t) = true := fun y hy => by
      have h := hl y hy
      rw [bne_iff_ne]
      rintro rfl
      rw [hx] at h; cases h
    constructor
    · intro h
      have e : x = t := by simpa using h
      subst e
      rw [insD, if_neg (by rw [hx]; decide), List.filter_cons_of_neg (by simp), List.filter_eq_self.2 hf]
    · intro h
      have e : x ≠ t := by simpa using h
      rw [insD, if_neg (by rw [hx]; decide), List.filter_cons_of_pos (by simpa using e), List.filter_eq_self.2 hf]
      rfl
  | x :: l, P + 1, t, hs, hP, h1, h2 => by
    have hx := h1 0 x (Nat.succ_pos _) rfl
    obtain ⟨i1, i2⟩ := insD_at l P t (List.Pairwise.of_cons hs) (by simpa using hP) (fun k y hk e => h1 (k + 1) y (by omega) (by simpa using e)) (fun k y hk e => h2 (k + 1) y (by omega) (by simpa using e))
    rw [List.getElem?_cons_succ, insD, if_pos hx, List.take_succ_cons, List.drop_succ_cons, List.cons_append]
    exact ⟨fun h => by rw [i1 h], fun h => by rw [i2 h]⟩
theorem insD_keep (l : List (Int × Int)) (P : Nat) (t : (Int × Int)) (hs : l.Pairwise (fun x y => bef x y = true)) (hP : P ≤ l.length) (h1 : ∀ (k : Nat) (x : (Int × Int)), k < P → l[k]? = some x → bef x t = true) (h2 : ∀ (k : Nat) (x : (Int × Int)), P ≤ k → l[k]? = some x → bef x t = false) :
    (insD l t).Pairwise (fun x y => bef x y = true) := by
  obtain ⟨i1, i2⟩ := insD_at l P t hs hP h1 h2
  by_cases h : l[P]? = some t
  · rw [i1 h]
    exact hs
  · rw [i2 h, List.pairwise_append]
    have m1 : ∀ x ∈ l.take P, bef x t = true := fun x hx => by
      obtain ⟨k, hk, rfl⟩ := List.mem_iff_getElem.1 hx
      rw [List.getElem_take]
      rw [List.length_take] at hk
      exact h1 k _ (by omega) (List.getElem?_eq_getElem (by omega))
    have m2 : ∀ y ∈ l.drop P, bef t y = true := fun y hy => by
      obtain ⟨k, hk, rfl⟩ := List.mem_iff_getElem.1 hy
      rw [List.getElem_drop]
      rw [List.length_drop] at hk
      have ha := h2 (P + k) _ (by omega) (List.getElem?_eq_getElem (show P + k < l.length by omega))
      have hne : ¬ l[P + k]'(by omega) = t := by
        intro e
        rcases Nat.eq_zero_or_pos k with rfl | hk0
        · exact h (by rw [← e]; exact List.getElem?_eq_getElem (show P + 0 < l.length by omega))
        · have hb := insD_sr_iff.1 hs P (P + k) _ _ (by omega) (List.getElem?_eq_getElem (show P < l.length by omega)) (List.getElem?_eq_getElem (show P + k < l.length by omega))
          have hc := h2 P _ (Nat.le_refl _) (List.getElem?_eq_getElem (show P < l.length by omega))
          rw [e] at hb
          rw [hc] at hb; cases hb
      rw [bef_iff]
      rw [← Bool.not_eq_true, bef_iff] at ha
      have hne2 : ¬ ((l[P + k]'(by omega)).1 = t.1 ∧ (l[P + k]'(by omega)).2 = t.2) := fun e => hne (Prod.ext e.1 e.2)
      omega
    refine ⟨hs.sublist (List.take_sublist _ _), List.pairwise_cons.2 ⟨m2, hs.sublist (List.drop_sublist _ _)⟩, fun x hx y hy => ?_⟩
    rcases List.mem_cons.1 hy with rfl | hy
    · exact m1 x hx
    · exact bef_trans (m1 x hx) (m2 y hy)
theorem insD_len (l : List (Int × Int)) (P : Nat) (t : (Int × Int)) (hs : l.Pairwise (fun x y => bef x y = true)) (hP : P ≤ l.length) (h1 : ∀ (k : Nat) (x : (Int × Int)), k < P → l[k]? = some x → bef x t = true) (h2 : ∀ (k : Nat) (x : (Int × Int)), P ≤ k → l[k]? = some x → bef x t = false) :
    (insD l t).length ≤ l.length + 1 := by
  obtain ⟨i1, i2⟩ := insD_at l P t hs hP h1 h2
  by_cases h : l[P]? = some t
  · rw [i1 h]; omega
  · rw [i2 h, List.length_append, List.length_cons, List.length_take, List.length_drop]; omega
end Rm
end Go.Proofs.YtleeklcpbflfhaaGreatDoor
namespace Go.Proofs.YtleeklcpbflfhaaGreatDoor
namespace Rm
def lrF (ok : Int → Bool) (pre : List (List UInt8)) : Option (List Int) := pre.foldl (stepN ok) (some [])
theorem stepN_fold_none (ok : Int → Bool) : ∀ l : List (List UInt8), l.foldl (stepN ok) none = none
  | [] => rfl
  | _ :: l => stepN_fold_none ok l
theorem lrF_snoc (ok : Int → Bool) (pre : List (List UInt8)) (x : List UInt8) : lrF ok (pre ++ [x]) = stepN ok (lrF ok pre) x := by
  unfold lrF
  rw [List.foldl_append]
  rfl
theorem lrF_all (ok : Int → Bool) (l : List UInt8) : lrF ok (cutB 44 l) = lr ok l := rfl
theorem lrF_none {ok : Int → Bool} {pre : List (List UInt8)} {l : List UInt8} (hp : pre <+: cutB 44 l) (h : lrF ok pre = none) : lr ok l = none := by
  obtain ⟨r, hr⟩ := hp
  rw [← lrF_all, ← hr]
  unfold lrF at *
  rw [List.foldl_append, h, stepN_fold_none]
theorem lrF_yes {ok : Int → Bool} {pre : List (List UInt8)} {x : List UInt8} {xs : List Int} {v : Int} (h : lrF ok pre = some xs) (h1 : sr x = some v) (h2 : ok v = true) : lrF ok (pre ++ [x]) = some (ins xs v) := by
  rw [lrF_snoc, h]
  unfold stepN
  rw [h1]
  exact if_pos h2
theorem lrF_no {ok : Int → Bool} {pre : List (List UInt8)} {x : List UInt8} (h : ∀ v, sr x = some v → ok v = false) : lrF ok (pre ++ [x]) = none := by
  rw [lrF_snoc]
  unfold stepN
  cases hp : lrF ok pre with
  | none => rfl
  | some xs =>
    cases hs : sr x with
    | none => rfl
    | some v => simp [h v hs]
def ldrF (pre : List (List UInt8)) : Option (List (Int × Int)) := pre.foldl stepD (some [])
theorem stepD_fold_none : ∀ l : List (List UInt8), l.foldl stepD none = none
  | [] => rfl
  | _ :: l => stepD_fold_none l
theorem ldrF_snoc (pre : List (List UInt8)) (x : List UInt8) : ldrF (pre ++ [x]) = stepD (ldrF pre) x := by
  unfold ldrF
  rw [List.foldl_append]
  rfl
theorem ldrF_all (l : List UInt8) : ldrF (cutB 44 l) = ldr l := rfl
theorem ldrF_none {pre : List (List UInt8)} {l : List UInt8} (hp : pre <+: cutB 44 l) (h : ldrF pre = none) : ldr l = none := by
  obtain ⟨r, hr⟩ := hp
  rw [← ldrF_all, ← hr]
  unfold ldrF at *
  rw [List.foldl_append, h, stepD_fold_none]
theorem ldrF_yes {pre : List (List UInt8)} {x : List UInt8} {xs : List (Int × Int)} {v : Int × Int} (h : ldrF pre = some xs) (h1 : dr x = some v) : ldrF (pre ++ [x]) = some (insD xs v) := by
  rw [ldrF_snoc, h]
  unfold stepD
  rw [h1]
theorem ldrF_no {pre : List (List UInt8)} {x : List UInt8} (h : dr x = none) : ldrF (pre ++ [x]) = none := by
  rw [ldrF_snoc]
  unfold stepD
  cases ldrF pre with
  | none => rfl
  | some xs => rw [h]
/- how many places a list of that fold has, at most -/
theorem cutB_count (c : UInt8) : ∀ l : List UInt8, (cutB c l).length ≤ l.length + 1
  | [] => by simp [cutB]
  | b :: l => by
    have ih := cutB_count c l
    rw [cutB]
    split
    · rw [List.length_cons, List.length_cons]; omega
    · split
      · simp
      · rename_i t u e
        rw [e] at ih
        rw [List.length_cons] at ih ⊢
        rw [List.length_cons]; omega
end Rm
end Go.Proofs.YtleeklcpbflfhaaGreatDoor
namespace Go.Proofs.YtleeklcpbflfhaaGreatDoor
namespace Rm
theorem cutB_le (c : UInt8) : ∀ (l : List UInt8), ∀ x ∈ cutB c l, x.length ≤ l.length
  | [], x, h => by
    rw [cutB, List.mem_singleton] at h
    rw [h]
    exact Nat.le_refl _
  | b :: l, x, h => by
    have ih := cutB_le c l
    rw [cutB] at h
    split at h
    · rcases List.mem_cons.1 h with rfl | h
      · exact Nat.zero_le _
      · exact Nat.le_succ_of_le (ih x h)
    · split at h
      · rw [List.mem_singleton] at h
        rw [h]
        simp
      · rename_i t u e
        rcases List.mem_cons.1 h with rfl | h
        · have := ih t (by rw [e]; simp)
          simp; omega
        · exact Nat.le_succ_of_le (ih x (by rw [e]; simp [h]))
theorem splitEq_len {l : List UInt8} {p : List UInt8 × List UInt8} (h : splitEq l = some p) : p.2.length ≤ l.length := by
  unfold splitEq at h
  have h1 : (l.dropWhile notEq).length ≤ l.length := (List.dropWhile_sublist _).length_le
  split at h
  · cases h
  · rename_i e
    cases h
    rw [e] at h1
    simp at h1 ⊢
    omega
theorem cps_fold (m : Nat) : ∀ (l : List (List UInt8)) (a ps : List (List UInt8 × List UInt8)), (∀ x ∈ l, x.length ≤ m) → (∀ p ∈ a, p.1 ∈ names ∧ p.2.length ≤ m) → l.foldl stepC (some a) = some ps → ∀ p ∈ ps, p.1 ∈ names ∧ p.2.length ≤ m
  | [], a, ps, _, ha, h => by
    cases h
    exact ha
  | x :: l, a, ps, hl, ha, h => by
    rw [List.foldl_cons] at h
    cases hx : stepC (some a) x with
    | none =>
      rw [hx, stepC_none] at h
      cases h
    | some b =>
      rw [hx] at h
      refine cps_fold m l b ps (fun y hy => hl y (List.mem_cons_of_mem _ hy)) ?_ h
      unfold stepC at hx
      rw [Option.bind_some] at hx
      cases hs : splitEq x with
      | none =>
        rw [hs] at hx
        cases hx
      | some p =>
        rw [hs, Option.bind_some] at hx
        split at hx
        · rename_i hp
          cases hx
          intro q hq
          rcases List.mem_append.1 hq with hq | hq
          · exact ha q hq
          · rw [List.mem_singleton] at hq
            rw [hq]
            exact ⟨hp.1, Nat.le_trans (splitEq_len hs) (hl x (by simp))⟩
        · cases hx
theorem cps_mem {l : List UInt8} {ps : List (List UInt8 × List UInt8)} (h : cps l = some ps) : ∀ p ∈ ps, p.1 ∈ names ∧ p.2.length ≤ l.length :=
  cps_fold l.length _ [] ps (cutB_le 59 l) (fun p hp => by cases hp) h
end Rm
end Go.Proofs.YtleeklcpbflfhaaGreatDoor
