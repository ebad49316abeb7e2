/- What value.Duration returns; awake. -/
import Derived.Test.YtleeklcpbflfhaaGreatDoorZC
import Derived.Test.YtleeklcpbflfhaaGreatDoorZA
namespace Go.Proofs.YtleeklcpbflfhaaGreatDoor
open Go.RowKit

/- the table is there, and the world has grown alone -/
def TG (w w' : World) : Prop := Tab w' ∧ Gr w w'
theorem TG.go {w w1 w2 : World} (h : TG w w1) (hb : Gr w1 w2) : TG w w2 := ⟨h.1.keep hb, h.2.trans hb⟩
theorem TG.start {w : World} (h : Tab w) : TG w w := ⟨h, Gr.refl _⟩
theorem TG.drewN {w w1 : World} (h : TG w w1) (n : Nat) : TG w (w1.drewN n) := h.go ((Gr.refl _).drewN n)
theorem TG.drew {w w1 : World} (h : TG w w1) : TG w w1.drew := h.go (Gr.refl _).drew
theorem str_mk {a : ByteArray} {l : List UInt8} (h : a.data.toList = l) : a = ⟨l.toArray⟩ := by rw [← h, Lib.mk_data]
namespace Va
theorem de_len {n : Int} (h0 : 0 ≤ n) (h1 : n < 10000000000) : (de n).length ≤ 10 := (num_iff.1 (de_num h0 h1).1).2.1
theorem hmx_len {h m x : Int} (h0 : 0 ≤ h) (h1 : h < 24) (m0 : 0 ≤ m) (m1 : m < 60) (x0 : 0 ≤ x) (x1 : x < 60) : (hmx h m x).length ≤ 33 := by
  have := de_len h0 (by omega : h < 10000000000)
  have := de_len m0 (by omega : m < 10000000000)
  have := de_len x0 (by omega : x < 10000000000)
  unfold hmx
  simp only [List.length_append]
  split <;> split <;> split <;> simp <;> omega
theorem per_len {n : Int} (h0 : 0 ≤ n) (h1 : n ≤ 10000000000) : (per n).length ≤ 45 := by
  have := de_len (n := n / 604800) (by omega) (by omega)
  have := de_len (n := n / 86400) (by omega) (by omega)
  have := hmx_len (h := n % 86400 / 3600) (m := n % 3600 / 60) (x := n % 60) (by omega) (by omega) (by omega) (by omega) (by omega) (by omega)
  unfold per
  split
  · simp
  · split
    · simp; omega
    · simp only [List.length_append]
      split <;> split <;> simp <;> omega
end Va
theorem dur_awake : Va.dur 5400 = [80, 84, 49, 72, 51, 48, 77] := by decide +kernel
end Go.Proofs.YtleeklcpbflfhaaGreatDoor
