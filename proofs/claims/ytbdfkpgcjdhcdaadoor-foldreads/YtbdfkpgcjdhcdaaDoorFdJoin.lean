/- What fold.join returns. -/
import Derived.Test.YtbdfkpgcjdhcdaaDoorFdMem
import Derived.Deep.AppendSrc
import Derived.Deep.MidRow
namespace Go.Proofs.YtbdfkpgcjdhcdaaDoor
open Go.RowKit

/- a row of bytes of the call's own, told by its cells -/
structure RowG (w : World) (B g n c : Nat) (l : List UInt8) : Prop where
  new : B ≤ g
  len : l.length = n
  le : n ≤ c
  max : c ≤ maxLen
  holds : ∀ j, j < n → w.cell? ⟨g, j, none⟩ = (bc l)[j]?
  there : ∀ j, j < c → (w.cell? ⟨g, j, none⟩).isSome = true ∧ w.frozen? ⟨g, j, none⟩ = false
theorem below_setCells {B g : Nat} {w : World} (hg : B ≤ g) : ∀ (vs : List Value) (o : Nat) (w' : World), Below B w w' → Below B w (w'.setCells g o vs)
  | [], _, _, h => h
  | v :: vs, o, _, h => below_setCells hg vs (o + 1) _ (h.setCell (p := ⟨g, o, none⟩) hg v)
theorem bc_len (l : List UInt8) : (bc l).length = l.length := by simp [bc]
theorem run_apG (w : World) (ty : TypeId) (B g n c : Nat) (l : List UInt8) (hr : RowG w B g n c l) (s : ByteArray) (hlen : n + s.size ≤ 1000000) (hB : B ≤ w.heap.size) :
    ∃ g' c' w', (Builtin.append_ #[35, 9] ty #[.slice (some ⟨g, 0, none⟩) n c, .string s]).run Tryd.prog w = .ok (.slice (some ⟨g', 0, none⟩) (n + s.size) c') w' ∧ RowG w' B g' (n + s.size) c' (l ++ s.data.toList) ∧ Below B w w' := by
  obtain ⟨i0, hi, hz0, hz1, hz2⟩ := info_parts info_u8
  have hs : Src Tryd.prog i0.size 9 (.string s) s.size (byteCells s) w := by rw [hz1]; exact Src.ofString w Tryd.underlying9 s
  have hbl : (byteCells s).length = s.size := byteCells_length s
  have hbc : byteCells s = bc s.data.toList := rfl
  have hll := bc_len l
  have hlen2 : (l ++ s.data.toList).length = n + s.size := by rw [List.length_append, hr.len, ← Lib.size_eq]
  by_cases hroom : n + s.size ≤ c
  · have hrun := run_append_room_src (P := Tryd.prog) w 35 9 ty 5 i0 Tryd.underlying35 hi g 0 n c (.string s) s.size (byteCells s) hs hroom
      (fun j hj => by rw [hz1, Nat.zero_add, Nat.mul_one]; exact (hr.there (n + j) (by omega)).1) (fun j hj => by rw [hz1, Nat.zero_add, Nat.mul_one]; exact (hr.there (n + j) (by omega)).2)
    rw [hz1, Nat.zero_add, Nat.mul_one] at hrun
    refine ⟨g, c, _, hrun, ⟨hr.new, hlen2, hroom, hr.max, fun j hj => ?_, fun j hj => ⟨?_, ?_⟩⟩, below_setCells hr.new _ _ _ (Below.refl _ _)⟩
    · rw [bc_append]
      by_cases hjn : j < n
      · rw [World.cell?_setCells_out g (byteCells s) n w ⟨g, j, none⟩ (fun _ _ => .inl hjn), hr.holds j hjn, List.getElem?_append_left (by rw [hll, hr.len]; exact hjn)]
      · have hin := World.cell?_setCells_in g (byteCells s) n w (fun j hj => (hr.there (n + j) (by omega)).1) (j - n) (by omega)
        rw [show n + (j - n) = j by omega] at hin
        rw [hin, List.getElem?_append_right (by rw [hll, hr.len]; omega), hll, hr.len, ← hbc, List.getElem?_eq_getElem (by omega)]
    · exact World.isSome_setCells g (byteCells s) n w _ (hr.there j hj).1
    · rw [World.frozen?_setCells]; exact (hr.there j hj).2
  · have hold : (Builtin.firstCells i0.size n (.slice (some ⟨g, 0, none⟩) n c)).run Tryd.prog w.drew = .ok (bc l).toArray w.drew := by
      refine run_firstCells_some (P := Tryd.prog) w.drew i0.size n ⟨g, 0, none⟩ n c (bc l) (by rw [hz1, hll, hr.len]; omega) (fun j v hv => ?_)
      have hj : j < n := by
        have := (List.getElem?_eq_some_iff.1 hv).1
        rw [hll, hr.len] at this; exact this
      have hadd : (⟨g, 0, none⟩ : Addr).add j = ⟨g, j, none⟩ := by unfold Addr.add; split <;> simp_all
      rw [hadd]
      exact (hr.holds j hj).trans hv
    have hrun := run_append_grow_src (P := Tryd.prog) w 35 9 ty 5 i0 (.int .u8 0) Tryd.underlying35 hi hz0 (some ⟨g, 0, none⟩) n c (bc l) hold (.string s) s.size (byteCells s) hs (by omega) (by omega)
      (by rw [hz2]; exact growslice_fits (by omega) (by omega))
    have hge := grownCap_ge w (n + s.size) c 5
    have hcm := grownCap_le_maxLen w (n + s.size) c 5 (by unfold maxLen; omega)
    have hcell := fun j => World.cell?_alloc_new w.drew ((bc l ++ byteCells s).toArray ++ Builtin.zeroCells (Value.int .u8 0).cells (grownCap w (n + s.size) c 5 - (n + s.size))) 5 j
    have hsz : ((bc l ++ byteCells s).toArray ++ Builtin.zeroCells (Value.int .u8 0).cells (grownCap w (n + s.size) c 5 - (n + s.size))).size = grownCap w (n + s.size) c 5 := by
      have hz1' : (Value.int IntKind.u8 0).cells.size = 1 := rfl
      simp only [Array.size_append, List.size_toArray, List.length_append, size_zeroCells, hz1', hll, hr.len, hbl]
      omega
    refine ⟨w.heap.size, _, _, hrun, ⟨hB, hlen2, hge, hcm, fun j hj => ?_, fun j hj => ⟨?_, ?_⟩⟩, (Below.refl B w).drew.alloc hB _⟩
    · rw [show (w.drew.heap.size) = w.heap.size from rfl] at hcell
      rw [hcell j, Array.getElem?_append_left (by simp only [List.size_toArray, List.length_append, hll, hr.len, hbl]; exact hj), List.getElem?_toArray, bc_append, hbc]
    · rw [show (w.drew.heap.size) = w.heap.size from rfl] at hcell
      rw [hcell j, Array.getElem?_eq_getElem (by rw [hsz]; exact hj)]; rfl
    · have hb : (w.drew.alloc (.cells ((bc l ++ byteCells s).toArray ++ Builtin.zeroCells (Value.int .u8 0).cells (grownCap w (n + s.size) c 5 - (n + s.size))) 5)).heap[w.heap.size]? = some (.cells ((bc l ++ byteCells s).toArray ++ Builtin.zeroCells (Value.int .u8 0).cells (grownCap w (n + s.size) c 5 - (n + s.size))) 5) := heap_alloc_new w.drew _
      unfold World.frozen?
      rw [hb]
      simp
theorem ap_textG {ops : Array Oper} {rest : List Oper} {o : Oper} {a : Act} {Q : Exit → Act → World → Prop} (w : World) (hgd : o.guard = none) (sl x : Operand)
    (ho : o.op = .call { callee := .builtin .append, args := #[sl, x], argTypes := #[35, 9] })
    (B g n c : Nat) (l : List UInt8) (hs : a.eval sl = .slice (some ⟨g, 0, none⟩) n c) (hr : RowG w B g n c l) (s : ByteArray) (hx : a.eval x = .string s)
    (hlen : n + s.size ≤ 1000000) (hB : B ≤ w.heap.size)
    (h : ∀ g' c' w', RowG w' B g' (n + s.size) c' (l ++ s.data.toList) → Below B w w' → wpList Tryd.prog ops Q rest (a.put o.dst (.slice (some ⟨g', 0, none⟩) (n + s.size) c')) w') : wpList Tryd.prog ops Q (o :: rest) a w := by
  refine wpList_plain hgd fun K hK => ?_
  obtain ⟨g', c', w', hrun, h2, h3⟩ := run_apG w o.type B g n c l hr s hlen hB
  unfold Oper.wp execOp
  simp only [ho, resolve, invoke, builtin, Sem.run_bind, Sem.run_pure, Result.andThen_ok, List.map_toArray, List.map_cons, List.map_nil, hs, hx, hrun]
  exact hK _ _ (h g' c' w' h2 h3)
/- []byte(text) -/
theorem conv_row (w : World) (s : ByteArray) (hs : s.size ≤ 1000000) :
    ∃ c w', (convert 9 35 (.string s)).run Tryd.prog w = .ok (.slice (some ⟨w.heap.size, 0, none⟩) s.size c) w' ∧ RowG w' w.heap.size w.heap.size s.size c s.data.toList ∧ Gr w w' := by
  have hrun := run_bytes_of_string (P := Tryd.prog) w 9 35 5 s Tryd.underlying9 Tryd.underlying35 Tryd.underlying5
  have hge := grownCap_ge w s.size 0 5
  have hcm := grownCap_le_maxLen w s.size 0 5 (by unfold maxLen; omega)
  generalize grownCap w s.size 0 5 = cap at *
  have hsz : (bytesRow s cap).size = cap := by
    have : s.data.size = s.size := rfl
    simp only [bytesRow, Array.size_append, Array.size_map, Array.size_replicate]; omega
  rw [hsz] at hrun
  have hb : (w.drew.alloc (.cells (bytesRow s cap) 5 (cap, cap + 1))).heap[w.heap.size]? = some (.cells (bytesRow s cap) 5 (cap, cap + 1)) := heap_alloc_new w.drew _
  have hcell := fun j => cell_of_row _ w.heap.size j (bytesRow s cap) 5 (cap, cap + 1) hb
  refine ⟨cap, _, hrun, ⟨Nat.le_refl _, (Lib.size_eq s).symm, hge, hcm, fun j hj => ?_, fun j hj => ⟨?_, ?_⟩⟩, ((Gr.refl w).drew).allocO _⟩
  · have hjd : j < s.data.size := hj
    rw [hcell j]
    unfold bytesRow bc
    rw [Array.getElem?_append_left (by simpa using hjd), Array.getElem?_map, List.getElem?_map, ← Array.getElem?_toList]
  · rw [hcell j, Array.getElem?_eq_getElem (by rw [hsz]; exact hj)]; rfl
  · simp only [World.frozen?, hb, Bool.and_eq_false_iff, decide_eq_false_iff_not]
    left; omega
/- string(bytes) -/
theorem conv_backG {w : World} {B g n c : Nat} {l : List UInt8} (h : RowG w B g n c l) : (convert 35 9 (.slice (some ⟨g, 0, none⟩) n c)).run Tryd.prog w = .ok (.string ⟨l.toArray⟩) w := by
  have hl := h.len
  subst hl
  refine run_convert_bytes_back w 35 9 5 ⟨g, 0, none⟩ c l Tryd.underlying35 Tryd.underlying5 Tryd.underlying9 (fun j hj => ?_)
  have hadd : (⟨g, 0, none⟩ : Addr).add j = ⟨g, j, none⟩ := by unfold Addr.add; split <;> simp_all
  rw [hadd, h.holds j hj]
  unfold bc
  rw [List.getElem?_map, List.getElem?_eq_getElem hj]
  rfl

set_option maxHeartbeats 2000000 in
set_option maxRecDepth 100000 in
theorem join_any (ad : Addr) (n c : Nat) (p : List UInt8) (cs : List (List UInt8)) (w : World) (hS : Strs w w.heap.size (some ad) n (p :: cs)) (hc : n ≤ c) (hne : ∀ q ∈ cs, q ≠ []) (hn : n ≤ 100000)
    (hlen : ∀ k, k ≤ cs.length → p.length + ((cs.take k).flatMap List.tail).length ≤ 200000) :
    Calls Tryd.prog 20 #[.slice (some ad) n c] w fun e w' => e = .returned (.string ⟨(p ++ cs.flatMap List.tail).toArray⟩) ∧ Gr w w' := by
  have hl : cs.length + 1 = n := by have := hS.1; simpa using this
  obtain ⟨ad', e0, hbl, hcells⟩ := hS.2 (by omega)
  obtain rfl : ad = ad' := Option.some.inj e0
  have h0 := hcells 0 p rfl
  have hadd0 : ad.add 0 = ad := by unfold Addr.add; simp
  have h0' := h0
  rw [hadd0] at h0'
  have hp0 := hlen 0 (by omega)
  have hpz : (ByteArray.mk p.toArray).size = p.length := size_mk _
  obtain ⟨cp, w1, hcv, hrow, hg1⟩ := conv_row w ⟨p.toArray⟩ (by rw [hpz]; simp at hp0; omega)
  have ed : (ByteArray.mk p.toArray).data.toList = p := rfl
  rw [ed, hpz] at hrow
  rw [hpz] at hcv
  have HX := Lib.hid (And.intro hcells hl)
  have hnp : 1 ≤ n := by omega
  clear e0 hadd0 hl hcells hpz ed hp0
  generalize (ByteArray.mk p.toArray) = s at *
  have hcnp : 1 ≤ c := by omega
  by_cases hc1 : c = 1
  · have hn1 : n = 1 := by omega
    subst hc1 hn1
    have hcs : cs = [] := List.eq_nil_of_length_eq_zero (by have := HX.out.2; omega)
    subst hcs
    have hbk := conv_backG hrow
    go_enter Tryd.func20, Tryd.ntmps20
    go_wp2
    refine wp_loop_rounds 1 ?_
    rw [rounds_succ]
    go_wp2
    go_ret
    exact ⟨by simp, hg1⟩
  · go_enter Tryd.func20, Tryd.ntmps20
    go_wp2
    go_loopg [3, 13] (n - 1) (fun g v3 v wx => ∃ gb nb cb, ∃ k : Nat, v3 = .slice (some ⟨gb, 0, none⟩) nb cb ∧ v = .int .i64 (k : Int) ∧ k + g = n - 1 ∧ Below w.heap.size w wx ∧ w.heap.size ≤ wx.heap.size ∧ RowG wx w.heap.size gb nb cb (p ++ (cs.take k).flatMap List.tail))
    case atStart => exact ⟨_, _, _, 0, rfl, rfl, by omega, hg1.below, hg1.lt, by simpa using hrow⟩
    case round =>
      obtain ⟨gb, nb, cb, k, rfl, rfl, hkg, hb2, hsz2, hrow2⟩ := hrel
      have HG := Lib.hid hkg
      have hnb := hrow2.len
      rw [List.length_append] at hnb
      clear hkg
      by_cases hk : k < n - 1
      · have hk' : k < cs.length := by have := HX.out.2; omega
        have hcell := HX.out.1 (k + 1) cs[k] (by simp [hk'])
        have hcell2 : wr.cell? ⟨ad.block, ad.off + 1 + k, none⟩ = some (.string ⟨cs[k].toArray⟩) := by
          have e : ad.add (k + 1) = ⟨ad.block, ad.off + 1 + k, none⟩ := by
            unfold Addr.add
            rw [if_neg (by omega), show ad.off + (k + 1) = ad.off + 1 + k by omega]
          rw [← e, hb2.cell (by rw [add_block]; exact hbl)]; exact hcell
        have hq := hne _ (List.getElem_mem hk')
        have hql := List.length_pos_iff.2 hq
        have hz : (ByteArray.mk cs[k].toArray).size = cs[k].length := size_mk _
        have hlk := hlen (k + 1) (by omega)
        have hfm : (cs.take (k + 1)).flatMap List.tail = (cs.take k).flatMap List.tail ++ cs[k].tail := by rw [List.take_succ_eq_append_getElem hk', List.flatMap_append]; simp only [List.flatMap_cons, List.flatMap_nil, List.append_nil]
        rw [hfm, List.length_append] at hlk
        obtain ⟨u, hu⟩ : ∃ u, (ByteArray.mk cs[k].toArray).extract 1 (ByteArray.mk cs[k].toArray).size = u := ⟨_, rfl⟩
        have hud : u.data.toList = cs[k].tail := by
          rw [← hu, extract_from]
          show List.drop 1 cs[k] = _
          rw [List.drop_one]
        have hus : u.size = cs[k].tail.length := by rw [Lib.size_eq, hud]
        have hbound : nb + u.size ≤ 1000000 := by omega
        have hpos : 1 ≤ (ByteArray.mk cs[k].toArray).size := by omega
        have HY := Lib.hid (And.intro hud hfm)
        clear hcell hq hql hz hlk hfm hud hus hnb
        generalize (ByteArray.mk cs[k].toArray) = s2 at *
        go_wp2_with (at_builtin; refine ap_textG wr rfl (.tmp 17) (.tmp 19) rfl w.heap.size gb nb cb _ rfl hrow2 u (by first | rfl | (show Value.string (s2.extract 1 s2.size) = _; rw [hu])) hbound hsz2 ?_; intro g3 c3 w3 hrow3 hb3)
        go_roundg (n - 1 - (k + 1))
        case measure => have := HG.out; omega
        case rel =>
          refine ⟨g3, _, c3, k + 1, rfl, by go_num, by omega, hb2.trans hb3, by have := hb3.size; omega, ?_⟩
          rw [HY.out.2, ← HY.out.1, ← List.append_assoc]
          exact hrow3
      · obtain rfl : k = n - 1 := by have := HG.out; omega
        have e1 : cs.take (n - 1) = cs := List.take_of_length_le (by have := HX.out.2; omega)
        rw [e1] at hrow2
        have hbk := conv_backG hrow2
        clear e1 hnb
        go_wp2
        go_ret
        exact ⟨rfl, ⟨hb2⟩⟩
end Go.Proofs.YtbdfkpgcjdhcdaaDoor
