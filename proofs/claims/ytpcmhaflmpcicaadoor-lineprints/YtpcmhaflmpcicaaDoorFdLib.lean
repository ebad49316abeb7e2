/- What the library's functions of texts return, at the texts that package fold hands them. -/
import Derived.Test.YtpcmhaflmpcicaaDoorChecked
import Derived.Test.YtpcmhaflmpcicaaDoorShelf
import Derived.Test.YtpcmhaflmpcicaaDoorGr
import Derived.Test.YtpcmhaflmpcicaaDoorFu
import Derived.Laws.RangeAny
import Derived.Lib.Strings
import Derived.Lib.IndexBytes
import Derived.Deep.LoopGhost
import Derived.WalkSpells
namespace Go.Proofs.YtpcmhaflmpcicaaDoor
open Go.RowKit

theorem Gr.allocO {w w' : World} (h : Gr w w') (o : Obj) : Gr w (w'.alloc o) := ⟨h.below.alloc h.below.size _⟩
def Tab (w : World) : Prop := Lib.Utf8Tabs 0 1 w
theorem Tab.keep {w w' : World} (h : Tab w) (hg : Gr w w') : Tab w' :=
  ⟨fun c hc => hg.keeps (World.block_lt_of_cell? _ _ (h.1 c hc)) (h.1 c hc), fun i hi => ⟨hg.keeps (World.block_lt_of_cell? _ _ (h.2 i hi).1) (h.2 i hi).1, hg.keeps (World.block_lt_of_cell? _ _ (h.2 i hi).2) (h.2 i hi).2⟩⟩

theorem mk_data (s : ByteArray) : (⟨s.data.toList.toArray⟩ : ByteArray) = s := rfl
theorem str_data {s : ByteArray} {l : List UInt8} (h : s.data.toList = l) : s = ⟨l.toArray⟩ := by rw [← h]

theorem valid_any (s : ByteArray) (w : World) (ht : Tab w) (h : s.size ≤ 9223372036854775807) :
    Calls Tryd.prog 29 #[.string s] w fun e w' => e = .returned (.bool (Lib.validD s.data.toList)) ∧ Gr w w' := by
  refine (Tryd.utf8_ValidString s w h ht).mono ?_
  rintro e w' ⟨rfl, hb⟩
  exact ⟨rfl, ⟨hb⟩⟩

namespace Fd
theorem idx_in (c : UInt8) : ∀ l : List UInt8, c ∈ l → Lib.indexByte l c = ((l.takeWhile (· != c)).length : Int)
  | [], h => by cases h
  | b :: l, h => by
    unfold Lib.indexByte
    by_cases e : b = c
    · subst e; simp
    · have h1 : c ∈ l := by rcases List.mem_cons.1 h with h | h; exact absurd h.symm e; exact h
      have i := idx_in c l h1
      rw [i]
      have : ((((l.takeWhile (· != c)).length : Int)) == -1) = false := by rw [beq_eq_false_iff_ne]; omega
      simp [e, this]
theorem idx_out (c : UInt8) : ∀ l : List UInt8, c ∉ l → Lib.indexByte l c = -1
  | [], _ => rfl
  | b :: l, h => by
    unfold Lib.indexByte
    simp only [List.mem_cons, not_or] at h
    rw [idx_out c l h.2]
    have : (b == c) = false := by rw [beq_eq_false_iff_ne]; exact fun e => h.1 e.symm
    simp [this]
theorem idx_has (c : UInt8) (l : List UInt8) : decide (0 ≤ Lib.indexByte l c) = l.contains c := by
  by_cases h : c ∈ l
  · rw [idx_in c l h]; simp [h]
  · rw [idx_out c l h]; simp [h]
theorem bl_in (l : List UInt8) (h : 10 ∈ l) : bl l = l.take (l.takeWhile (· != 10)).length ∧ (al l).tail = l.drop ((l.takeWhile (· != 10)).length + 1) ∧ al l ≠ [] ∧ (l.takeWhile (· != 10)).length < l.length := by
  have e := List.takeWhile_append_dropWhile (p := (· != (10 : UInt8))) (l := l)
  have hne : al l ≠ [] := by
    intro hn
    unfold al at hn
    rw [hn, List.append_nil] at e
    rw [← e] at h
    have := List.all_eq_true.1 List.all_takeWhile _ h
    simp at this
  refine ⟨?_, ?_, hne, ?_⟩
  · unfold bl; conv => rhs; rw [← e]
    rw [e]; conv => rhs; arg 2; rw [← e]
    rw [List.take_left]
  · unfold al
    rw [← List.drop_drop]
    conv => rhs; arg 2; arg 2; rw [← e]
    rw [List.drop_left, List.drop_one]
  · have h1 := congrArg List.length e
    rw [List.length_append] at h1
    have h2 := List.length_pos_iff.2 hne
    unfold al at h2
    omega
theorem bl_out (l : List UInt8) (h : 10 ∉ l) : bl l = l ∧ al l = [] := by
  have h1 : ∀ a ∈ l, (a != 10) = true := by
    intro a ha; simp only [bne_iff_ne, ne_eq]; intro e; subst e; exact h ha
  unfold bl al
  have e1 := List.takeWhile_append_of_pos (l₂ := []) h1
  have e2 := List.dropWhile_append_of_pos (l₂ := []) h1
  simp only [List.append_nil, List.takeWhile_nil, List.dropWhile_nil] at e1 e2
  exact ⟨e1, e2⟩
theorem trim_cr (l : List UInt8) : Lib.trimSuffix l [13] = tc l := by
  unfold Lib.trimSuffix Lib.hasSuffix tc
  rcases List.eq_nil_or_concat l with rfl | ⟨x, b, rfl⟩
  · simp
  · by_cases c : b = 13
    · subst c
      have : [13].isSuffixOf (x ++ [13]) = true := by rw [List.isSuffixOf_iff_suffix]; exact ⟨x, rfl⟩
      simp [this]
    · have : [13].isSuffixOf (x ++ [b]) = false := by
        rw [Bool.eq_false_iff]
        intro h
        rw [List.isSuffixOf_iff_suffix] at h
        obtain ⟨y, h⟩ := h
        have := congrArg List.getLast? h
        simp at this
        exact c this.symm
      simp [this, c]
end Fd

theorem extract_to (s : ByteArray) (n : Nat) : s.extract 0 n = ⟨(s.data.toList.take n).toArray⟩ := str_data (by simp [ByteArray.data_extract])
theorem extract_from (s : ByteArray) (n : Nat) : s.extract n s.size = ⟨(s.data.toList.drop n).toArray⟩ := str_data (by
  have : s.size = s.data.toList.length := Lib.size_eq s
  simp only [ByteArray.data_extract, Array.toList_extract, List.extract_eq_take_drop]
  exact List.take_of_length_le (by rw [List.length_drop]; omega))
theorem has_any (s : ByteArray) (w : World) :
    Calls Tryd.prog 67 #[.string s, .string ⟨#[13]⟩] w fun e w' => e = .returned (.bool (s.data.toList.contains 13)) ∧ w = w' := by
  refine (Tryd.strings_Contains_one s 13 w).mono ?_
  rintro e w' ⟨rfl, rfl⟩
  exact ⟨by rw [Fd.idx_has], rfl⟩

namespace Fd
open Go.Lib in
theorem idxAny (l cs : List UInt8) : 0 ≤ indexAny l cs ↔ l.any (cs.contains ·) = true := by
  induction l with
  | nil => simp [indexAny]
  | cons b l ih =>
    have hg := indexAny_ge cs l
    have e : indexAny (b :: l) cs = if cs.contains b then 0 else if indexAny l cs == -1 then -1 else indexAny l cs + 1 := rfl
    rw [e, List.any_cons, Bool.or_eq_true, ← ih]
    by_cases c : cs.contains b = true
    · rw [if_pos c]; exact ⟨fun _ => .inl c, fun _ => by omega⟩
    · rw [if_neg c]
      by_cases d : indexAny l cs = -1
      · rw [d]; simp only [c]; simp
      · have d' : (indexAny l cs == -1) = false := by simpa using d
        rw [d']
        simp only [Bool.false_eq_true, if_false, c, false_or]
        omega
open Go.Lib in
theorem decN_hi (n b0 b1 b2 b3 : Nat) (h0 : b0 < 256) (h : 128 ≤ b0) : 128 ≤ (decodeN n b0 b1 b2 b3).1 ∧ (2 ≤ (decodeN n b0 b1 b2 b3).2 → 128 ≤ b1) ∧ (3 ≤ (decodeN n b0 b1 b2 b3).2 → 128 ≤ b2) ∧ (4 ≤ (decodeN n b0 b1 b2 b3).2 → 128 ≤ b3) := by
  unfold Lib.decodeN
  repeat' split
  all_goals (simp only; omega)
end Fd
end Go.Proofs.YtpcmhaflmpcicaaDoor
