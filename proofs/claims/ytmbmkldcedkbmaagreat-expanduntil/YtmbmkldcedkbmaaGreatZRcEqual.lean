/- What recur.Equal returns (written by mkequal.py). -/
import Derived.Test.YtmbmkldcedkbmaaGreatZE
import Derived.Test.YtmbmkldcedkbmaaGreatZO
import Derived.Test.YtmbmkldcedkbmaaGreatZRcForm
import Derived.Test.YtmbmkldcedkbmaaGreatZH
import Derived.Deep.WholeRow
namespace Go.Proofs.YtmbmkldcedkbmaaGreat
open Go.RowKit

namespace Rm
theorem Ru.eq_of {a b : Ru} (h0 : a.freq = b.freq) (h1 : a.ivl = b.ivl) (h2 : a.cnt = b.cnt) (h3 : a.uk = b.uk) (h4 : a.ua = b.ua) (h5 : a.uz = b.uz) (h6 : a.has = b.has) (h7 : a.st = b.st) (h8 : ∀ i, i < 8 → a.ls i = b.ls i) (h9 : a.day = b.day) : a = b := by
  have g0 := h8 0 (by decide)
  have g1 := h8 1 (by decide)
  have g2 := h8 2 (by decide)
  have g3 := h8 3 (by decide)
  have g4 := h8 4 (by decide)
  have g5 := h8 5 (by decide)
  have g6 := h8 6 (by decide)
  have g7 := h8 7 (by decide)
  cases a
  cases b
  simp only [Ru.ls] at *
  subst h0 h1 h2 h3 h4 h5 h6 h7 h9 g0 g1 g2 g3 g4 g5 g6 g7
  rfl
theorem nlArr_ptr (b : Nat) : ∀ k, k < 8 → (nlArr b)[k * 4 + 1]? = some (.pointer (some ⟨b, off k, none⟩)) := by
  intro k hk
  rcases (show k = 0 ∨ k = 1 ∨ k = 2 ∨ k = 3 ∨ k = 4 ∨ k = 5 ∨ k = 6 ∨ k = 7 by omega) with rfl | rfl | rfl | rfl | rfl | rfl | rfl | rfl <;> rfl
end Rm
theorem nlArr_cell {w : World} {b b' : Nat} {t : TypeId} {fr : Nat × Nat} (h : w.heap[b]? = some (.cells (Rm.nlArr b') t fr)) {k : Nat} (hk : k < 8) : w.cell? ⟨b, k * 4 + 1, none⟩ = some (.pointer (some ⟨b', Rm.off k, none⟩)) := by
  rw [show w.cell? ⟨b, k * 4 + 1, none⟩ = (Rm.nlArr b')[k * 4 + 1]? by simp [World.cell?, h], Rm.nlArr_ptr b' k hk]
theorem z_eq {a b : ByteArray} {x y : List UInt8} (ha : a.data.toList = x) (hb : b.data.toList = y) : a.toList = b.toList ↔ x = y := by
  rw [Lib.toList_data, Lib.toList_data, ha, hb]
theorem z_eq2 {a b : ByteArray} (h : a.data.toList = b.data.toList) : a = b := by
  rw [← Lib.mk_data a, ← Lib.mk_data b, h]
end Go.Proofs.YtmbmkldcedkbmaaGreat
