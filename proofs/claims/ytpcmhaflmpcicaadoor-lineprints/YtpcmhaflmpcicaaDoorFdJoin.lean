/- What fold.join returns. -/
import Derived.Test.YtpcmhaflmpcicaaDoorFdMem
import Derived.Deep.AppendSrc
import Derived.Deep.MidRow
namespace Go.Proofs.YtpcmhaflmpcicaaDoor
open Go.RowKit

/- a row of bytes of the call's own, told by its cells -/
structure RowG (w : World) (B g n c : Nat) (l : List UInt8) : Prop where
  new : B ≤ g
  len : l.length = n
  le : n ≤ c
  max : c ≤ maxLen
  holds : ∀ j, j < n → w.cell? ⟨g, j, none⟩ = (bc l)[j]?
  there : ∀ j, j < c → (w.cell? ⟨g, j, none⟩).isSome = true ∧ w.frozen? ⟨g, j, none⟩ = false
theorem below_setCells {B g : Nat} {w : World} (hg : B ≤ g) : ∀ (vs : List Value) (o : Nat) (w' : World), Below B w w' → Below B w (w'.setCells g o vs)
  | [], _, _, h => h
  | v :: vs, o, _, h => below_setCells hg vs (o + 1) _ (h.setCell (p := ⟨g, o, none⟩) hg v)
theorem bc_len (l : List UInt8) : (bc l).length = l.length := by simp [bc]
theorem run_apG (w : World) (ty : TypeId) (B g n c : Nat) (l : List UInt8) (hr : RowG w B g n c l) (s : ByteArray) (hlen : n + s.size ≤ 1000000) (hB : B ≤ w.heap.size) :
    ∃ g' c' w', (Builtin.append_ #[48, 9] ty #[.slice (some ⟨g, 0, none⟩) n c, .string s]).run Tryd.prog w = .ok (.slice (some ⟨g', 0, none⟩) (n + s.size) c') w' ∧ RowG w' B g' (n + s.size) c' (l ++ s.data.toList) ∧ Below B w w' := by
  obtain ⟨i0, hi, hz0, hz1, hz2⟩ := info_parts info_u8
  have hs : Src Tryd.prog i0.size 9 (.string s) s.size (byteCells s) w := by rw [hz1]; exact Src.ofString w Tryd.underlying9 s
  have hbl : (byteCells s).length = s.size := byteCells_length s
  have hbc : byteCells s = bc s.data.toList := rfl
  have hll := bc_len l
  have hlen2 : (l ++ s.data.toList).length = n + s.size := by rw [List.length_append, hr.len, ← Lib.size_eq]
  by_cases hroom : n + s.size ≤ c
  · have hrun := run_append_room_src (P := Tryd.prog) w 48 9 ty 5 i0 Tryd.underlying48 hi g 0 n c (.string s) s.size (byteCells s) hs hroom
      (fun j hj => by rw [hz1, Nat.zero_add, Nat.mul_one]; exact (hr.there (n + j) (by omega)).1) (fun j hj => by rw [hz1, Nat.zero_add, Nat.mul_one]; exact (hr.there (n + j) (by omega)).2)
    rw [hz1, Nat.zero_add, Nat.mul_one] at hrun
    refine ⟨g, c, _, hrun, ⟨hr.new, hlen2, hroom, hr.max, fun j hj => ?_, fun j hj => ⟨?_, ?_⟩⟩, below_setCells hr.new _ _ _ (Below.refl _ _)⟩
    · rw [bc_append]
      by_cases hjn : j < n
      · rw [World.cell?_setCells_out g (byteCells s) n w ⟨g, j, none⟩ (fun _ _ => .inl hjn), hr.holds j hjn, List.getElem?_append_left (by rw [hll, hr.len]; exact hjn)]
      · have hin := World.cell?_setCells_in g (byteCells s) n w (fun j hj => (hr.there (n + j) (by omega)).1) (j - n) (by omega)
        rw [show n + (j - n) = j by omega] at hin
        rw [hin, List.getElem?_append_right (by rw [hll, hr.len]; omega), hll, hr.len, ← hbc, List.getElem?_eq_getElem (by omega)]
    · exact World.isSome_setCells g (byteCells s) n w _ (hr.there j hj).1
    · rw [World.frozen?_setCells]; exact (hr.there j hj).2
  · have hold : (Builtin.firstCells i0.size n (.slice (some ⟨g, 0, none⟩) n c)).run Tryd.prog w.drew = .ok (bc l).toArray w.drew := by
      refine run_firstCells_some (P := Tryd.prog) w.drew i0.size n ⟨g, 0, none⟩ n c (bc l) (by rw [hz1, hll, hr.len]; omega) (fun j v hv => ?_)
      have hj : j < n := by
        have := (List.getElem?_eq_some_iff.1 hv).1
        rw [hll, hr.len] at this; exact this
      have hadd : (⟨g, 0, none⟩ : Addr).add j = ⟨g, j, none⟩ := by unfold Addr.add; split <;> simp_all
      rw [hadd]
      exact (hr.holds j hj).trans hv
    have hrun := run_append_grow_src (P := Tryd.prog) w 48 9 ty 5 i0 (.int .u8 0) Tryd.underlying48 hi hz0 (some ⟨g, 0, none⟩) n c (bc l) hold (.string s) s.size (byteCells s) hs (by omega) (by omega)
      (by rw [hz2]; exact growslice_fits (by omega) (by omega))
    have hge := grownCap_ge w (n + s.size) c 5
    have hcm := grownCap_le_maxLen w (n + s.size) c 5 (by unfold maxLen; omega)
    have hcell := fun j => World.cell?_alloc_new w.drew ((bc l ++ byteCells s).toArray ++ Builtin.zeroCells (Value.int .u8 0).cells (grownCap w (n + s.size) c 5 - (n + s.size))) 5 j
    have hsz : ((bc l ++ byteCells s).toArray ++ Builtin.zeroCells (Value.int .u8 0).cells (grownCap w (n + s.size) c 5 - (n + s.size))).size = grownCap w (n + s.size) c 5 := by
      have hz1' : (Value.int IntKind.u8 0).cells.size = 1 := rfl
      simp only [Array.size_append, List.size_toArray, List.length_append, size_zeroCells, hz1', hll, hr.len, hbl]
      omega
    refine ⟨w.heap.size, _, _, hrun, ⟨hB, hlen2, hge, hcm, fun j hj => ?_, fun j hj => ⟨?_, ?_⟩⟩, (Below.refl B w).drew.alloc hB _⟩
    · rw [show (w.drew.heap.size) = w.heap.size from rfl] at hcell
      rw [hcell j, Array.getElem?_append_left (by simp only [List.size_toArray, List.length_append, hll, hr.len, hbl]; exact hj), List.getElem?_toArray, bc_append, hbc]
    · rw [show (w.drew.heap.size) = w.heap.size from rfl] at hcell
      rw [hcell j, Array.getElem?_eq_getElem (by rw [hsz]; exact hj)]; rfl
    · have hb : (w.drew.alloc (.cells ((bc l ++ byteCells s).toArray ++ Builtin.zeroCells (Value.int .u8 0).cells (grownCap w (n + s.size) c 5 - (n + s.size))) 5)).heap[w.heap.size]? = some (.cells ((bc l ++ byteCells s).toArray ++ Builtin.zeroCells (Value.int .u8 0).cells (grownCap w (n + s.size) c 5 - (n + s.size))) 5) := heap_alloc_new w.drew _
      unfold World.frozen?
      rw [hb]
      simp
theorem ap_textG {ops : Array Oper} {rest : List Oper} {o : Oper} {a : Act} {Q : Exit → Act → World → Prop} (w : World) (hgd : o.guard = none) (sl x : Operand)
    (ho : o.op = .call { callee := .builtin .append, args := #[sl, x], argTypes := #[48, 9] })
    (B g n c : Nat) (l : List UInt8) (hs : a.eval sl = .slice (some ⟨g, 0, none⟩) n c) (hr : RowG w B g n c l) (s : ByteArray) (hx : a.eval x = .string s)
    (hlen : n + s.size ≤ 1000000) (hB : B ≤ w.heap.size)
    (h : ∀ g' c' w', RowG w' B g' (n + s.size) c' (l ++ s.data.toList) → Below B w w' → wpList Tryd.prog ops Q rest (a.put o.dst (.slice (some ⟨g', 0, none⟩) (n + s.size) c')) w') : wpList Tryd.prog ops Q (o :: rest) a w := by
  refine wpList_plain hgd fun K hK => ?_
  obtain ⟨g', c', w', hrun, h2, h3⟩ := run_apG w o.type B g n c l hr s hlen hB
  unfold Oper.wp execOp
  simp only [ho, resolve, invoke, builtin, Sem.run_bind, Sem.run_pure, Result.andThen_ok, List.map_toArray, List.map_cons, List.map_nil, hs, hx, hrun]
  exact hK _ _ (h g' c' w' h2 h3)
/- []byte(text) -/
theorem conv_row (w : World) (s : ByteArray) (hs : s.size ≤ 1000000) :
    ∃ c w', (convert 9 48 (.string s)).run Tryd.prog w = .ok (.slice (some ⟨w.heap.size, 0, none⟩) s.size c) w' ∧ RowG w' w.heap.size w.heap.size s.size c s.data.toList ∧ Gr w w' := by
  have hrun := run_bytes_of_string (P := Tryd.prog) w 9 48 5 s Tryd.underlying9 Tryd.underlying48 Tryd.underlying5
  have hge := grownCap_ge w s.size 0 5
  have hcm := grownCap_le_maxLen w s.size 0 5 (by unfold maxLen; omega)
  generalize grownCap w s.size 0 5 = cap at *
  have hsz : (bytesRow s cap).size = cap := by
    have : s.data.size = s.size := rfl
    simp only [bytesRow, Array.size_append, Array.size_map, Array.size_replicate]; omega
  rw [hsz] at hrun
  have hb : (w.drew.alloc (.cells (bytesRow s cap) 5 (cap, cap + 1))).heap[w.heap.size]? = some (.cells (bytesRow s cap) 5 (cap, cap + 1)) := heap_alloc_new w.drew _
  have hcell := fun j => cell_of_row _ w.heap.size j (bytesRow s cap) 5 (cap, cap + 1) hb
  refine ⟨cap, _, hrun, ⟨Nat.le_refl _, (Lib.size_eq s).symm, hge, hcm, fun j hj => ?_, fun j hj => ⟨?_, ?_⟩⟩, ((Gr.refl w).drew).allocO _⟩
  · have hjd : j < s.data.size := hj
    rw [hcell j]
    unfold bytesRow bc
    rw [Array.getElem?_append_left (by simpa using hjd), Array.getElem?_map, List.getElem?_map, ← Array.getElem?_toList]
  · rw [hcell j, Array.getElem?_eq_getElem (by rw [hsz]; exact hj)]; rfl
  · simp only [World.frozen?, hb, Bool.and_eq_false_iff, decide_eq_false_iff_not]
    left; omega
/- string(bytes) -/
theorem conv_backG {w : World} {B g n c : Nat} {l : List UInt8} (h : RowG w B g n c l) : (convert 48 9 (.slice (some ⟨g, 0, none⟩) n c)).run Tryd.prog w = .ok (.string ⟨l.toArray⟩) w := by
  have hl := h.len
  subst hl
  refine run_convert_bytes_back w 48 9 5 ⟨g, 0, none⟩ c l Tryd.underlying48 Tryd.underlying5 Tryd.underlying9 (fun j hj => ?_)
  have hadd : (⟨g, 0, none⟩ : Addr).add j = ⟨g, j, none⟩ := by unfold Addr.add; split <;> simp_all
  rw [hadd, h.holds j hj]
  unfold bc
  rw [List.getElem?_map, List.getElem?_eq_getElem hj]
  rfl

end Go.Proofs.YtpcmhaflmpcicaaDoor
