/- Regions that draw their order: what holds of the operations that are done, kept by each operation, holds at the end. -/
import Derived.Test.YtmbmkldcedkbmaaGreatZO
namespace Go.Proofs.YtmbmkldcedkbmaaGreat
open Go.RowKit

def nzB : List Bool → Nat
  | [] => 0
  | b :: l => (if b = true then 0 else 1) + nzB l
theorem nzB_set : ∀ (l : List Bool) (i : Nat), l[i]? = some false → nzB (l.set i true) + 1 = nzB l
  | [], i, h => by simp at h
  | b :: l, 0, h => by
    have hb : b = false := by simpa using h
    subst hb
    rw [List.set_cons_zero, nzB, nzB]
    simp; omega
  | b :: l, i + 1, h => by
    have ih := nzB_set l i (by simpa using h)
    rw [List.set_cons_succ, nzB, nzB]
    omega
theorem getD_false {l : List Bool} {i : Nat} (h : l.toArray.getD i true = false) : l[i]? = some false := by
  rcases Nat.lt_or_ge i l.length with h1 | h1
  · simp [h1] at h ⊢
    exact h
  · simp [h1] at h
theorem nzB_rep : ∀ n : Nat, nzB (List.replicate n false) = n
  | 0 => rfl
  | n + 1 => by
    rw [List.replicate_succ, nzB, nzB_rep n]
    simp; omega
/- all lists of n marks -/
def marks : Nat → List (List Bool)
  | 0 => [[]]
  | n + 1 => (marks n).flatMap fun l => [false :: l, true :: l]
theorem mem_marks : ∀ l : List Bool, l ∈ marks l.length
  | [] => by simp [marks]
  | b :: l => by
    have ih := mem_marks l
    rw [List.length_cons, marks, List.mem_flatMap]
    exact ⟨l, ih, by cases b <;> simp⟩
/- whatever comes up next has what f asks behind it; at the end all is done -/
def ordB (ops : Array Oper) (n : Nat) (f : Nat → (Nat → Bool) → Bool) : Bool :=
  (marks n).all fun l => (Region.ready .any ops l.toArray).all (fun i => f i (fun k => l.getD k false)) && (!(Region.ready .any ops l.toArray).isEmpty || l.all id)
theorem getD_set_mark (l : List Bool) (i k : Nat) (hi : i < l.length) : (l.set i true).getD k false = (k == i || l.getD k false) := by
  rw [List.getD_eq_getElem?_getD, List.getD_eq_getElem?_getD]
  by_cases h : k = i
  · subst h
    rw [List.getElem?_set_self hi]
    simp
  · rw [List.getElem?_set_ne (Ne.symm h)]
    have : (k == i) = false := beq_eq_false_iff_ne.2 h
    rw [this]
    simp
section
variable {ops : Array Oper} {Q : Exit → Act → World → Prop}
theorem ord_step (n : Nat) (f : Nat → (Nat → Bool) → Bool) (I : (Nat → Bool) → Act → World → Prop) (hr : ordB ops n f = true)
    (hs : ∀ i D a w, i < n → D i = false → f i D = true → I D a w → wpOp Tryz.prog ops Q i (fun a' w' => I (fun k => k == i || D k) a' w') a w)
    (hf : ∀ D a w, (∀ k, k < n → D k = true) → I D a w → Q .normal a w) :
    ∀ (m : Nat) (l : List Bool) (a : Act) (w : World), nzB l = m → l.length = n → I (fun k => l.getD k false) a w → wpAny Tryz.prog .any ops Q m l.toArray a w := by
  have key : ∀ l : List Bool, l.length = n → (∀ i ∈ Region.ready .any ops l.toArray, f i (fun k => l.getD k false) = true) ∧ (Region.ready .any ops l.toArray = [] → ∀ k, k < n → l.getD k false = true) := by
    intro l hl
    have h1 := List.all_eq_true.1 hr l (by rw [← hl]; exact mem_marks l)
    rw [Bool.and_eq_true, List.all_eq_true] at h1
    refine ⟨h1.1, fun he k hk => ?_⟩
    have h2 := h1.2
    rw [he] at h2
    have h3 : l.all id = true := by simpa using h2
    have h4 := List.all_eq_true.1 h3 (l[k]'(by omega)) (List.getElem_mem _)
    rw [List.getD_eq_getElem?_getD, List.getElem?_eq_getElem (by omega)]
    exact h4
  intro m
  induction m with
  | zero =>
    intro l a w hm hl h
    have hr : Region.ready .any ops l.toArray = [] := by
      rw [List.eq_nil_iff_forall_not_mem]
      intro i hi
      have := nzB_set l i (getD_false (mem_ready.1 hi).1)
      omega
    exact ⟨hr, hf _ _ _ ((key l hl).2 hr) h⟩
  | succ m ih =>
    intro l a w hm hl h
    refine ⟨fun hr => hf _ _ _ ((key l hl).2 hr) h, fun i hi => ?_⟩
    have h1 := getD_false (mem_ready.1 hi).1
    have hil : i < l.length := by
      rcases Nat.lt_or_ge i l.length with h2 | h2
      · exact h2
      · rw [List.getElem?_eq_none h2] at h1; cases h1
    have h3 := nzB_set l i h1
    refine wpOp_mono (fun a' w' g => ?_) (hs i (fun k => l.getD k false) a w (by omega) (by rw [List.getD_eq_getElem?_getD, h1]; rfl) ((key l hl).1 i hi) h)
    rw [List.setIfInBounds_toArray]
    refine ih _ _ _ (by omega) (by rw [List.length_set]; exact hl) ?_
    have he : (fun k => (l.set i true).getD k false) = (fun k => k == i || l.getD k false) := funext fun k => getD_set_mark l i k hil
    rw [he]
    exact g
theorem wp_region_ord {id : Nat} {a : Act} {w : World} (n : Nat) (f : Nat → (Nat → Bool) → Bool) (I : (Nat → Bool) → Act → World → Prop) (hm : Tryz.prog.follows .mixedOrders = true) (hz : ops.size = n) (hr : ordB ops n f = true)
    (h0 : I (fun _ => false) a w.drew)
    (hs : ∀ i D a w, i < n → D i = false → f i D = true → I D a w → wpOp Tryz.prog ops Q i (fun a' w' => I (fun k => k == i || D k) a' w') a w)
    (hf : ∀ D a w, (∀ k, k < n → D k = true) → I D a w → Q .normal a w) : (Code.region id ops true).wp Tryz.prog Q a w := by
  subst hz
  refine wp_region_any hm ?_
  have e : (List.replicate ops.size false).toArray = Array.replicate ops.size false := by simp
  rw [← e]
  refine ord_step _ f I hr hs hf _ _ _ _ (nzB_rep _) (by simp) ?_
  have he : (fun k => (List.replicate ops.size false).getD k false) = (fun _ => false) := funext fun k => by
    rw [List.getD_eq_getElem?_getD, List.getElem?_replicate]
    split <;> rfl
  rw [he]
  exact h0
end
end Go.Proofs.YtmbmkldcedkbmaaGreat
