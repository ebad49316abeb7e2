/- What escape.Text and escape.Param return. -/
import Derived.Test.YtpcmhaflmpcicaaDoorEsFn
namespace Go.Proofs.YtpcmhaflmpcicaaDoor
open Go.RowKit

/- append(out, bytes..) -/
theorem ap_bytes {ops : Array Oper} {rest : List Oper} {o : Oper} {a : Act} {Q : Exit → Act → World → Prop} (w : World) (hgd : o.guard = none) (sl x : Operand)
    (ho : o.op = .call { callee := .builtin .append, args := #[sl, x], argTypes := #[48, 48] })
    (B : Nat) (A : Option Addr) (n c : Nat) (l t : List UInt8) (hs : a.eval sl = .slice A n c) (hown : OwnV w B 5 A n c (bc l)) (m c2 : Nat) (hx : a.eval x = .slice (some ⟨w.heap.size, 0, none⟩) m c2)
    (hm : t.length = m) (hlen : n + m ≤ 1000000) (hB : B ≤ w.heap.size)
    (h : ∀ A' c' w', OwnV w' B 5 A' (n + m) c' (bc (l ++ t)) → Below B w w' → wpList Tryd.prog ops Q rest (a.put o.dst (.slice A' (n + m) c')) w') : wpList Tryd.prog ops Q (o :: rest) a (w.alloc (.cells (bc t).toArray 5)) := by
  refine ap_lit w hgd sl x 48 5 (.int .u8 0) 1 Tryd.underlying48 info_u8 rfl (by omega) ho B A n c (bc l) (bc t) hs hown m c2 hx (by simpa [bc] using hm) ?_ hlen hB ?_
  · intro u hu
    obtain ⟨b, _, rfl⟩ := List.mem_map.1 hu
    rfl
  · intro A' c' w' h1 h2
    rw [← bc_append] at h1
    exact h A' c' w' h1 h2
namespace Es
theorem txT_ok {l : List UInt8} (h : clE true l = 0) : txT l = tx l := by unfold txT; rw [if_pos h]
theorem txT_no {l : List UInt8} (h : clE true l ≠ 0) : txT l = [] := by unfold txT; rw [if_neg h]
theorem pqT_ok {l : List UInt8} (h : clE true l = 0) : pqT l = pq l := by unfold pqT; rw [if_pos h]
theorem pqT_no {l : List UInt8} (h : clE true l ≠ 0) : pqT l = [] := by unfold pqT; rw [if_neg h]
end Es
theorem tx_step (s : ByteArray) (j : Nat) (h : j < s.size) : Es.tx (s.data.toList.take (j + 1)) = Es.tx (s.data.toList.take j) ++ Es.t1 s[j] := by
  have h2 : j < s.data.toList.length := by rw [← Lib.size_eq]; exact h
  exact Es.tx_snoc _ j h2
theorem pm_step (s : ByteArray) (j : Nat) (h : j < s.size) : Es.pm (s.data.toList.take (j + 1)) = Es.pm (s.data.toList.take j) ++ Es.p1 s[j] := by
  have h2 : j < s.data.toList.length := by rw [← Lib.size_eq]; exact h
  exact Es.pm_snoc _ j h2
theorem ctl_true : Es.ctl true = ⟨#[9, 10]⟩ := rfl
theorem ctl_false : Es.ctl false = ⟨#[9]⟩ := rfl
end Go.Proofs.YtpcmhaflmpcicaaDoor
