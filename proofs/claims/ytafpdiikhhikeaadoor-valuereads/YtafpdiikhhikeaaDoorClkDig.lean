/- What clock.digits returns. -/
import Derived.Test.YtafpdiikhhikeaaDoorShelf
import Derived.Test.YtafpdiikhhikeaaDoorClk
import Derived.Test.YtafpdiikhhikeaaDoorTxt
import Derived.Lib.Strings
namespace Go.Proofs.YtafpdiikhhikeaaDoor
open Go.RowKit

def Tab (w : World) : Prop := Lib.TabIs Tryd.prog w "internal/strconv.uint64pow10" .u64 Lib.pow10Tab
theorem Tab.keep {w w' : World} (h : Tab w) (hg : Gr w w') : Tab w' := by
  unfold Tab Lib.TabIs World.var? at h ⊢
  rcases hn : Tryd.prog.globalNamed "internal/strconv.uint64pow10" with _ | g
  · rw [hn] at h; exact h
  · rw [hn] at h
    simp only [Option.bind_some] at h ⊢
    rcases Nat.lt_or_ge g w.heap.size with hlt | hge
    · rw [hg.below.block g hlt]; exact h
    · rw [Array.getElem?_eq_none hge] at h; cases h
theorem Gr.grow (w : World) (k : Nat) (os : Array Obj) : Gr w (Sort.grow (w.drewN k) os) :=
  ⟨rfl, rfl, rfl, by simp [Sort.grow, World.drewN], fun j hj => by simp [Sort.grow, World.drewN, Array.getElem?_append, hj]⟩
theorem cat (a b : List UInt8) : (⟨a.toArray⟩ : ByteArray) ++ ⟨b.toArray⟩ = ⟨(a ++ b).toArray⟩ := by
  ext1
  simp [ByteArray.data_append]
theorem mkstr {a b : ByteArray} (h : a = b) : Ending.returned (.string a) = .returned (.string b) := by rw [h]
namespace Clk
def num8 (y m d : Int) : Nat := (10000 * y + 100 * m + d).toNat
end Clk
end Go.Proofs.YtafpdiikhhikeaaDoor
