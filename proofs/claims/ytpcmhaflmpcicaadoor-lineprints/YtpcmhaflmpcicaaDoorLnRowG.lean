/- Rows of bytes that begin as a text: appending bytes and texts, and what else stays. -/
import Derived.Test.YtpcmhaflmpcicaaDoorFdJoin
import Derived.Test.YtpcmhaflmpcicaaDoorLnPar
namespace Go.Proofs.YtpcmhaflmpcicaaDoor
open Go.RowKit

theorem mv_setCells (g : Nat) : ∀ (vs : List Value) (o : Nat) (w : World), Mv g w (w.setCells g o vs)
  | [], _, w => Mv.refl g w
  | v :: vs, o, w => (Mv.set g w o v).trans (mv_setCells g vs (o + 1) _)
theorem RowG.gr {w w' : World} {B g n c : Nat} {l : List UInt8} (h : RowG w B g n c l) (hg : Gr w w') : RowG w' B g n c l := by
  have hlt : ∀ j, j < c → g < w.heap.size := fun j hj => by
    obtain ⟨v, hv⟩ := Option.isSome_iff_exists.1 (h.there j hj).1
    exact World.block_lt_of_cell? w ⟨g, j, none⟩ hv
  have hle := h.le
  exact ⟨h.new, h.len, h.le, h.max, fun j hj => (hg.below.cell (p := ⟨g, j, none⟩) (hlt j (by omega))).trans (h.holds j hj),
    fun j hj => ⟨by rw [hg.below.cell (p := ⟨g, j, none⟩) (hlt j hj)]; exact (h.there j hj).1, (hg.below.frozen (p := ⟨g, j, none⟩) (hlt j hj)).trans (h.there j hj).2⟩⟩
theorem run_apS (w : World) (tx ty : TypeId) (x : Value) (m : Nat) (t : List UInt8) (hs0 : Src Tryd.prog 1 tx x m (bc t) w) (B g n c : Nat) (l : List UInt8) (hr : RowG w B g n c l) (hlen : n + m ≤ 1000000) (hB : B ≤ w.heap.size) :
    ∃ g' c' w', (Builtin.append_ #[48, tx] ty #[.slice (some ⟨g, 0, none⟩) n c, x]).run Tryd.prog w = .ok (.slice (some ⟨g', 0, none⟩) (n + m) c') w' ∧ RowG w' B g' (n + m) c' (l ++ t) ∧ Mv g w w' ∧ (g' = g ∨ w.heap.size ≤ g') := by
  obtain ⟨i0, hi, hz0, hz1, hz2⟩ := info_parts info_u8
  have hs : Src Tryd.prog i0.size tx x m (bc t) w := by rw [hz1]; exact hs0
  have hbl : (bc t).length = m := by have := hs0.newsLen; omega
  have htl : t.length = m := by rw [← bc_len]; exact hbl
  have hll := bc_len l
  have hlen2 : (l ++ t).length = n + m := by rw [List.length_append, hr.len, htl]
  by_cases hroom : n + m ≤ c
  · have hrun := run_append_room_src (P := Tryd.prog) w 48 tx ty 5 i0 Tryd.underlying48 hi g 0 n c x m (bc t) hs hroom
      (fun j hj => by rw [hz1, Nat.zero_add, Nat.mul_one]; exact (hr.there (n + j) (by omega)).1) (fun j hj => by rw [hz1, Nat.zero_add, Nat.mul_one]; exact (hr.there (n + j) (by omega)).2)
    rw [hz1, Nat.zero_add, Nat.mul_one] at hrun
    refine ⟨g, c, _, hrun, ⟨hr.new, hlen2, hroom, hr.max, fun j hj => ?_, fun j hj => ⟨?_, ?_⟩⟩, mv_setCells g _ _ _, .inl rfl⟩
    · rw [bc_append]
      by_cases hjn : j < n
      · rw [World.cell?_setCells_out g (bc t) n w ⟨g, j, none⟩ (fun _ _ => .inl hjn), hr.holds j hjn, List.getElem?_append_left (by rw [hll, hr.len]; exact hjn)]
      · have hin := World.cell?_setCells_in g (bc t) n w (fun j hj => (hr.there (n + j) (by omega)).1) (j - n) (by omega)
        rw [show n + (j - n) = j by omega] at hin
        rw [hin, List.getElem?_append_right (by rw [hll, hr.len]; omega), hll, hr.len, List.getElem?_eq_getElem (by omega)]
    · exact World.isSome_setCells g (bc t) n w _ (hr.there j hj).1
    · rw [World.frozen?_setCells]; exact (hr.there j hj).2
  · have hold : (Builtin.firstCells i0.size n (.slice (some ⟨g, 0, none⟩) n c)).run Tryd.prog w.drew = .ok (bc l).toArray w.drew := by
      refine run_firstCells_some (P := Tryd.prog) w.drew i0.size n ⟨g, 0, none⟩ n c (bc l) (by rw [hz1, hll, hr.len]; omega) (fun j v hv => ?_)
      have hj : j < n := by
        have := (List.getElem?_eq_some_iff.1 hv).1
        rw [hll, hr.len] at this; exact this
      have hadd : (⟨g, 0, none⟩ : Addr).add j = ⟨g, j, none⟩ := by unfold Addr.add; split <;> simp_all
      rw [hadd]
      exact (hr.holds j hj).trans hv
    have hrun := run_append_grow_src (P := Tryd.prog) w 48 tx ty 5 i0 (.int .u8 0) Tryd.underlying48 hi hz0 (some ⟨g, 0, none⟩) n c (bc l) hold x m (bc t) hs (by omega) (by omega)
      (by rw [hz2]; exact growslice_fits (by omega) (by omega))
    have hge := grownCap_ge w (n + m) c 5
    have hcm := grownCap_le_maxLen w (n + m) c 5 (by unfold maxLen; omega)
    have hcell := fun j => World.cell?_alloc_new w.drew ((bc l ++ bc t).toArray ++ Builtin.zeroCells (Value.int .u8 0).cells (grownCap w (n + m) c 5 - (n + m))) 5 j
    have hsz : ((bc l ++ bc t).toArray ++ Builtin.zeroCells (Value.int .u8 0).cells (grownCap w (n + m) c 5 - (n + m))).size = grownCap w (n + m) c 5 := by
      have hz1' : (Value.int IntKind.u8 0).cells.size = 1 := rfl
      simp only [Array.size_append, List.size_toArray, List.length_append, size_zeroCells, hz1', hll, hr.len, hbl]
      omega
    refine ⟨w.heap.size, _, _, hrun, ⟨hB, hlen2, hge, hcm, fun j hj => ?_, fun j hj => ⟨?_, ?_⟩⟩, ((Gr.refl w).drew.allocO _).mv g, .inr (Nat.le_refl _)⟩
    · rw [show (w.drew.heap.size) = w.heap.size from rfl] at hcell
      rw [hcell j, Array.getElem?_append_left (by simp only [List.size_toArray, List.length_append, hll, hr.len, hbl]; exact hj), List.getElem?_toArray, bc_append]
    · rw [show (w.drew.heap.size) = w.heap.size from rfl] at hcell
      rw [hcell j, Array.getElem?_eq_getElem (by rw [hsz]; exact hj)]; rfl
    · have hb : (w.drew.alloc (.cells ((bc l ++ bc t).toArray ++ Builtin.zeroCells (Value.int .u8 0).cells (grownCap w (n + m) c 5 - (n + m))) 5)).heap[w.heap.size]? = some (.cells ((bc l ++ bc t).toArray ++ Builtin.zeroCells (Value.int .u8 0).cells (grownCap w (n + m) c 5 - (n + m))) 5) := heap_alloc_new w.drew _
      unfold World.frozen?
      rw [hb]
      simp
theorem ap_textS {ops : Array Oper} {rest : List Oper} {o : Oper} {a : Act} {Q : Exit → Act → World → Prop} (w : World) (hgd : o.guard = none) (sl x : Operand)
    (ho : o.op = .call { callee := .builtin .append, args := #[sl, x], argTypes := #[48, 9] })
    (B g n c : Nat) (l : List UInt8) (hs : a.eval sl = .slice (some ⟨g, 0, none⟩) n c) (hr : RowG w B g n c l) (s : ByteArray) (hx : a.eval x = .string s)
    (hlen : n + s.size ≤ 1000000) (hB : B ≤ w.heap.size)
    (h : ∀ g' c' w', RowG w' B g' (n + s.size) c' (l ++ s.data.toList) → Mv g w w' → (g' = g ∨ w.heap.size ≤ g') → wpList Tryd.prog ops Q rest (a.put o.dst (.slice (some ⟨g', 0, none⟩) (n + s.size) c')) w') : wpList Tryd.prog ops Q (o :: rest) a w := by
  refine wpList_plain hgd fun K hK => ?_
  obtain ⟨g', c', w', hrun, h2, h3, h4⟩ := run_apS w 9 o.type (.string s) s.size s.data.toList (Src.ofString w Tryd.underlying9 s) B g n c l hr hlen hB
  unfold Oper.wp execOp
  simp only [ho, resolve, invoke, builtin, Sem.run_bind, Sem.run_pure, Result.andThen_ok, List.map_toArray, List.map_cons, List.map_nil, hs, hx, hrun]
  exact hK _ _ (h g' c' w' h2 h3 h4)
theorem ap_byteS {ops : Array Oper} {rest : List Oper} {o : Oper} {a : Act} {Q : Exit → Act → World → Prop} (w : World) (hgd : o.guard = none) (sl x : Operand)
    (ho : o.op = .call { callee := .builtin .append, args := #[sl, x], argTypes := #[48, 48] })
    (B g n c : Nat) (l : List UInt8) (hs : a.eval sl = .slice (some ⟨g, 0, none⟩) n c) (hr : RowG w B g n c l) (b : UInt8) (hx : a.eval x = .slice (some ⟨w.heap.size, 0, none⟩) 1 1)
    (hlen : n + 1 ≤ 1000000) (hB : B ≤ w.heap.size)
    (h : ∀ g' c' w', RowG w' B g' (n + 1) c' (l ++ [b]) → Mv g w w' → (g' = g ∨ w.heap.size ≤ g') → wpList Tryd.prog ops Q rest (a.put o.dst (.slice (some ⟨g', 0, none⟩) (n + 1) c')) w') : wpList Tryd.prog ops Q (o :: rest) a (w.alloc (.cells #[.int .u8 (b.toNat : Int)] 5)) := by
  refine wpList_plain hgd fun K hK => ?_
  have hg : Gr w (w.alloc (.cells #[.int .u8 (b.toNat : Int)] 5)) := (Gr.refl w).allocO _
  obtain ⟨g', c', w', hrun, h2, h3, h4⟩ := run_apS (w.alloc (.cells #[.int .u8 (b.toNat : Int)] 5)) 48 o.type (.slice (some ⟨w.heap.size, 0, none⟩) 1 1) 1 [b]
    (Src.ofSlice _ Tryd.underlying48 ⟨w.heap.size, 0, none⟩ 1 1 (bc [b]) rfl (World.news_of_block (cs := #[.int .u8 (b.toNat : Int)]) (t := 5) (fr := (0, 0)) (heap_alloc_new w _)) (fun u hu => by
      obtain ⟨_, _, rfl⟩ := List.mem_map.1 hu
      rfl)) B g n c l (hr.gr hg) hlen (by have := hg.lt; omega)
  unfold Oper.wp execOp
  simp only [ho, resolve, invoke, builtin, Sem.run_bind, Sem.run_pure, Result.andThen_ok, List.map_toArray, List.map_cons, List.map_nil, hs, hx, hrun]
  refine hK _ _ (h g' c' w' h2 ((hg.mv g).trans h3) ?_)
  rcases h4 with h4 | h4
  · exact .inl h4
  · exact .inr (by have := hg.lt; omega)
end Go.Proofs.YtpcmhaflmpcicaaDoor
