/- What value.isDigit, decimal, signed, cutPart and the reference's Digits return. -/
import Derived.Test.YtafpdiikhhikeaaGreatDoorClkRead
import Derived.Test.YtafpdiikhhikeaaGreatDoorVe
import Derived.BigQuiet
import Derived.OwnWalk
import Derived.Deep.LoopGhost
namespace Go.Proofs.YtafpdiikhhikeaaGreatDoor
open Go.RowKit

theorem emp_t (s : ByteArray) (h : s.size = 0) : s.toList.isEmpty = true := by
  have : s.data.toList = [] := List.eq_nil_of_length_eq_zero (by rw [← Lib.size_eq]; exact h)
  rw [Lib.toList_data, this]; rfl
theorem emp_f (s : ByteArray) (h : s.size ≠ 0) : s.toList.isEmpty = false := by
  rw [Lib.toList_data]
  rcases e : s.data.toList with _ | ⟨b, l⟩
  · rw [Lib.size_eq, e] at h; exact absurd rfl h
  · rfl
theorem isdigit_any (c : UInt8) (w : World) : Calls Tryz.prog 46 #[.int .u8 (c.toNat : Int)] w fun e w' => e = .returned (.bool (Txt.isD c)) ∧ w = w' := by
  have e1 : Txt.isD c = (decide ((48 : Int) ≤ c.toNat) && decide ((c.toNat : Int) ≤ 57)) := by
    unfold Txt.isD
    rw [Bool.eq_iff_iff]; simp; omega
  rw [e1]
  rcases h1 : decide ((48 : Int) ≤ c.toNat)
  · go_enter Tryz.func46, Tryz.ntmps46
    go_wp2
    go_ret
    exact ⟨rfl, rfl⟩
  · rcases h2 : decide ((c.toNat : Int) ≤ 57)
    · go_enter Tryz.func46, Tryz.ntmps46
      go_wp2
      go_ret
      exact ⟨rfl, rfl⟩
    · go_enter Tryz.func46, Tryz.ntmps46
      go_wp2
      go_ret
      exact ⟨rfl, rfl⟩
namespace Va
theorem take_lt (l : List UInt8) (i k : Nat) (hl : l.length ≤ k) (h : (l.take i).all Txt.isD = true) : Txt.val (l.take i) 0 < 10 ^ k := by
  have h2 := Txt.val_lt _ 0 h
  have h3 : 10 ^ (l.take i).length ≤ 10 ^ k := Nat.pow_le_pow_right (by omega) (by rw [List.length_take]; omega)
  omega
theorem isD_int {c : UInt8} (h : Txt.isD c = true) : (48 : Int) ≤ c.toNat ∧ (c.toNat : Int) ≤ 57 := by
  have := Txt.isD_iff.1 h
  omega
theorem dgs_yes {l : List UInt8} (h1 : l ≠ []) (h2 : l.all Txt.isD = true) : dgs l = Txt.val l 0 := if_pos ⟨h1, h2⟩
theorem dgs_no {l : List UInt8} (h2 : l.all Txt.isD = false) : dgs l = -1 := if_neg (by simp [h2])
theorem dgs_nil : dgs [] = -1 := rfl
theorem ne_of_size {s : ByteArray} (h : s.size ≠ 0) : s.data.toList ≠ [] := by
  intro e; apply h; rw [Lib.size_eq, e]; rfl
end Va
def decV (l : List UInt8) (k : Nat) : Int := if Va.num l k then (Txt.val l 0 : Int) else 0

theorem idx_tw {s : ByteArray} {j : Nat} (h : j < s.size) (ha : (s.data.toList.take j).all Txt.isD = true) (hd : Txt.isD s[j] = false) :
    s.data.toList.takeWhile Txt.isD = s.data.toList.take j ∧ s.data.toList.dropWhile Txt.isD = s[j] :: s.data.toList.drop (j + 1) := by
  have h' : j < s.data.toList.length := by rw [← Lib.size_eq]; exact h
  have e : s.data.toList = s.data.toList.take j ++ s[j] :: s.data.toList.drop (j + 1) := by
    conv => lhs; rw [← List.take_append_drop j s.data.toList, List.drop_eq_getElem_cons h']
    rfl
  have := Va.tw_app (r := s.data.toList.drop (j + 1)) ha hd
  rw [← e] at this
  exact this
def cutV (l : List UInt8) : Value := match Va.cut l with
  | some (n, c, r) => .tuple #[.int .i64 (n : Int), .int .u8 (c.toNat : Int), .string ⟨r.toArray⟩]
  | none => .tuple #[.int .i64 0, .int .u8 0, .string ⟨#[]⟩]
end Go.Proofs.YtafpdiikhhikeaaGreatDoor
