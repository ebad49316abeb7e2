/- Terms: their sizes and sums: plain mathematics. -/
import Derived.Test.YtafpdiikhhikeaaDoorVe
namespace Go.Proofs.YtafpdiikhhikeaaDoor
namespace Va
open Txt

theorem tm_all : ∀ (l : List UInt8) (t : List (Nat × UInt8)), tm l = some t → ∀ p ∈ t, p.1 < 10000000000 := by
  intro l
  induction hn : l.length using Nat.strongRecOn generalizing l with
  | _ k ih =>
    intro t h p hp
    by_cases hl : l = []
    · subst hl; cases h; cases hp
    · rcases h1 : cut l with _ | ⟨m, d, r⟩
      · rw [tm_none h1 hl] at h; cases h
      · rw [tm_some h1] at h
        obtain ⟨h2, h3⟩ := cut_lt h1
        rcases h4 : tm r with _ | t'
        · rw [h4] at h; cases h
        · rw [h4] at h
          cases h
          rcases List.mem_cons.1 hp with hp | hp
          · rw [hp]; exact h2
          · exact ih r.length (by omega) r rfl t' h4 p hp
theorem tm_len : ∀ (l : List UInt8) (t : List (Nat × UInt8)), tm l = some t → t.length ≤ l.length := by
  intro l
  induction hn : l.length using Nat.strongRecOn generalizing l with
  | _ k ih =>
    intro t h
    by_cases hl : l = []
    · subst hl; cases h; simp
    · rcases h1 : cut l with _ | ⟨m, d, r⟩
      · rw [tm_none h1 hl] at h; cases h
      · rw [tm_some h1] at h
        obtain ⟨h2, h3⟩ := cut_lt h1
        rcases h4 : tm r with _ | t'
        · rw [h4] at h; cases h
        · rw [h4] at h
          cases h
          have := ih r.length (by omega) r rfl t' h4
          rw [List.length_cons]; omega
theorem wt_le {p : Nat × UInt8} (h : p.1 < 10000000000) : wt p ≤ 36000000000000 := by
  unfold wt
  split
  · omega
  · split
    · omega
    · split <;> omega
theorem sum_app : ∀ (a b : List (Nat × UInt8)), sum (a ++ b) = sum a + sum b
  | [], b => by simp [sum]
  | p :: a, b => by rw [List.cons_append, sum, sum, sum_app a b]; omega
theorem sum_le : ∀ (t : List (Nat × UInt8)), (∀ p ∈ t, p.1 < 10000000000) → sum t ≤ t.length * 36000000000000
  | [], _ => by simp [sum]
  | p :: t, h => by
    have h1 := wt_le (h p (by simp))
    have h2 := sum_le t (fun q hq => h q (by simp [hq]))
    rw [sum, List.length_cons, Nat.add_mul]; omega
theorem sum_take_le {t : List (Nat × UInt8)} (h : ∀ p ∈ t, p.1 < 10000000000) (j : Nat) : sum (t.take j) ≤ j * 36000000000000 := by
  refine Nat.le_trans (sum_le _ (fun p hp => h p (List.mem_of_mem_take hp))) (Nat.mul_le_mul_right _ ?_)
  rw [List.length_take]; omega
theorem word_len (t : List (Nat × UInt8)) (j : Nat) : (word (t.take j)).length ≤ t.length := by
  unfold word
  rw [List.length_map, List.length_take]; omega
theorem word_snoc {t : List (Nat × UInt8)} {j : Nat} (h : j < t.length) : word (t.take (j + 1)) = word (t.take j) ++ [t[j].2] := by
  rw [List.take_succ_eq_append_getElem h]
  unfold word
  rw [List.map_append]; rfl
theorem sum_snoc {t : List (Nat × UInt8)} {j : Nat} (h : j < t.length) : sum (t.take (j + 1)) = sum (t.take j) + wt t[j] := by
  rw [List.take_succ_eq_append_getElem h, sum_app]; rfl
end Va
end Go.Proofs.YtafpdiikhhikeaaDoor
