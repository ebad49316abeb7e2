/- What is read as a time: plain mathematics. -/
import Derived.Test.YtafpdiikhhikeaaGreatDoorVs
import Derived.Test.YtafpdiikhhikeaaGreatDoorVaZone
namespace Go.Proofs.YtafpdiikhhikeaaGreatDoor
theorem Clk.read_day' {l : List UInt8} (h : Clk.dayB l = true) : Cal.dayB (Cal.num (Clk.vY l) (Clk.vM l) (Clk.vD l)) = true := by
  simp only [Clk.dayB, Bool.and_eq_true, decide_eq_true_eq] at h
  exact Cal.dayB_iff.2 (Cal.num_bd h.2)
namespace Va
open Txt

def rd (s z : List UInt8) (date : Bool) : Option (Int × Int × List UInt8) :=
  if z ≠ [] ∧ (date = true ∨ zn z = false) then none
  else if date = true then (if Clk.dayB s = true then some (0, 86400 * Cal.num (Clk.vY s) (Clk.vM s) (Clk.vD s), []) else none)
  else if z ≠ [] then (if Clk.parB s = true then some (3, Clk.parV s, z) else none)
  else if s.getLast? = some 90 then (if Clk.parB s.dropLast = true then some (2, Clk.parV s.dropLast, []) else none)
  else (if Clk.parB s = true then some (1, Clk.parV s, []) else none)
def rdV : Option (Int × Int × List UInt8) → Value
  | some (k, a, z) => .tuple #[.agg #[.int .i64 k, .int .i64 a, .string ⟨z.toArray⟩], .int .i64 0]
  | none => .tuple #[.agg #[.int .i64 0, .int .i64 0, .string ⟨#[]⟩], .int .i64 7]
theorem rd_zone {s z : List UInt8} {date : Bool} (hz : z ≠ []) (h : date = true ∨ zn z = false) : rd s z date = none := if_pos ⟨hz, h⟩
theorem rd_date {s : List UInt8} : rd s [] true = if Clk.dayB s = true then some (0, 86400 * Cal.num (Clk.vY s) (Clk.vM s) (Clk.vD s), []) else none := by
  unfold rd
  rw [if_neg (fun h => h.1 rfl), if_pos rfl]
theorem rd_in {s z : List UInt8} (hz : z ≠ []) (h : zn z = true) : rd s z false = if Clk.parB s = true then some (3, Clk.parV s, z) else none := by
  unfold rd
  rw [if_neg (by rintro ⟨_, h1 | h1⟩; cases h1; rw [h] at h1; cases h1), if_neg (by decide), if_pos hz]
theorem rd_Z {s : List UInt8} (h : s.getLast? = some 90) : rd s [] false = if Clk.parB s.dropLast = true then some (2, Clk.parV s.dropLast, []) else none := by
  unfold rd
  rw [if_neg (fun h => h.1 rfl), if_neg (by decide), if_neg (fun h => h rfl), if_pos h]
theorem rd_L {s : List UInt8} (h : ¬ s.getLast? = some 90) : rd s [] false = if Clk.parB s = true then some (1, Clk.parV s, []) else none := by
  unfold rd
  rw [if_neg (fun h => h.1 rfl), if_neg (by decide), if_neg (fun h => h rfl), if_neg h]
theorem parV_lo {l : List UInt8} (h : Clk.parB l = true) : 0 ≤ Clk.parV l ∧ Clk.parV l ≤ 315537983999 := by
  simp only [Clk.parB, Bool.and_eq_true] at h
  obtain ⟨⟨_, ho⟩, ht⟩ := h
  have hn := Cal.dayB_iff.1 (Cal.dayB_iff.2 (Cal.num_bd ho))
  have := Clk.timB_iff.1 ht
  unfold Clk.parV
  omega
/- one byte behind -/
theorem hs1 (l : List UInt8) (c : UInt8) : Lib.hasSuffix l [c] = (l.getLast? == some c) := by
  unfold Lib.hasSuffix
  rcases List.eq_nil_or_concat l with h | ⟨a, b, h⟩
  · subst h; rfl
  · subst h
    rw [Bool.eq_iff_iff]
    simp only [List.isSuffixOf_iff_suffix, List.concat_eq_append, List.getLast?_append, List.getLast?_singleton, beq_iff_eq]
    constructor
    · intro h
      obtain ⟨t, ht⟩ := h
      have := congrArg List.getLast? ht
      simp at this
      simp [this]
    · intro h
      have : b = c := by simpa using h
      subst this
      exact ⟨a, rfl⟩
theorem ts1 (l : List UInt8) (c : UInt8) : Lib.trimSuffix l [c] = if l.getLast? = some c then l.dropLast else l := by
  unfold Lib.trimSuffix
  rw [hs1]
  by_cases h : l.getLast? = some c
  · rw [if_pos h, if_pos (by rw [h]; simp), List.dropLast_eq_take]; rfl
  · rw [if_neg h, if_neg (by simpa using h)]
/- a day as seconds -/
theorem sec_day {l : List UInt8} (h : l.length = 8) : secV (l ++ [84, 48, 48, 48, 48, 48, 48]) = if Clk.dayB l = true then 86400 * Cal.num (Clk.vY l) (Clk.vM l) (Clk.vD l) else -1 := by
  have t8 : (l ++ [84, 48, 48, 48, 48, 48, 48]).take 8 = l := List.take_left' h
  have t9 : (l ++ [84, 48, 48, 48, 48, 48, 48]).drop 9 = [48, 48, 48, 48, 48, 48] := by
    rw [List.drop_append, h, List.drop_eq_nil_of_le (by omega)]; rfl
  have a8 : (l ++ [84, 48, 48, 48, 48, 48, 48])[8]? = some 84 := by rw [List.getElem?_append_right (by omega), h]; rfl
  have l15 : (l ++ [84, 48, 48, 48, 48, 48, 48]).length = 15 := by rw [List.length_append, h]; rfl
  have z1 : Clk.vY [48, 48, 48, 48, 48, 48] = 0 := by decide
  have z2 : Clk.vM [48, 48, 48, 48, 48, 48] = 0 := by decide
  have z3 : Clk.vD [48, 48, 48, 48, 48, 48] = 0 := by decide
  have z4 : ([48, 48, 48, 48, 48, 48] : List UInt8).all isD = true := by decide
  have z5 : Clk.timB 0 0 0 = true := by decide
  unfold secV Clk.parB Clk.txtB Clk.parV Clk.dayB
  rw [t8, t9, l15, a8, z1, z2, z3, z4, z5, h]
  rcases l.all isD
  · simp
  · rcases Cal.okB (Clk.vY l) (Clk.vM l) (Clk.vD l)
    · simp
    · simp; omega
theorem day_len {l : List UInt8} (h : l.length ≠ 8) : Clk.dayB l = false := by
  unfold Clk.dayB; simp [h]
end Va
end Go.Proofs.YtafpdiikhhikeaaGreatDoor
