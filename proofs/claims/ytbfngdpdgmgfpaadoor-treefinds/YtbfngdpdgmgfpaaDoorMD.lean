/- The texts LnRowG, LnPrint, LnEq, LnLast, LnCopy, LnOurs, LnTheirs, LnFew, LnSame, TrCnt, TrForm, one behind the other. -/
import Derived.Test.YtbfngdpdgmgfpaaDoorMB
import Derived.Test.YtbfngdpdgmgfpaaDoorMC
import Derived.Deep.RegionHeld3
import Derived.Deep.AppendSrc
namespace Go.Proofs.YtbfngdpdgmgfpaaDoor
open Go.RowKit

theorem mv_setCells (g : Nat) : ∀ (vs : List Value) (o : Nat) (w : World), Mv g w (w.setCells g o vs)
  | [], _, w => Mv.refl g w
  | v :: vs, o, w => (Mv.set g w o v).trans (mv_setCells g vs (o + 1) _)
theorem RowG.gr {w w' : World} {B g n c : Nat} {l : List UInt8} (h : RowG w B g n c l) (hg : Gr w w') : RowG w' B g n c l := by
  have hlt : ∀ j, j < c → g < w.heap.size := fun j hj => by
    obtain ⟨v, hv⟩ := Option.isSome_iff_exists.1 (h.there j hj).1
    exact World.block_lt_of_cell? w ⟨g, j, none⟩ hv
  have hle := h.le
  exact ⟨h.new, h.len, h.le, h.max, fun j hj => (hg.below.cell (p := ⟨g, j, none⟩) (hlt j (by omega))).trans (h.holds j hj),
    fun j hj => ⟨by rw [hg.below.cell (p := ⟨g, j, none⟩) (hlt j hj)]; exact (h.there j hj).1, (hg.below.frozen (p := ⟨g, j, none⟩) (hlt j hj)).trans (h.there j hj).2⟩⟩
theorem run_apS (w : World) (tx ty : TypeId) (x : Value) (m : Nat) (t : List UInt8) (hs0 : Src Tryd.prog 1 tx x m (bc t) w) (B g n c : Nat) (l : List UInt8) (hr : RowG w B g n c l) (hlen : n + m ≤ 1000000) (hB : B ≤ w.heap.size) :
    ∃ g' c' w', (Builtin.append_ #[85, tx] ty #[.slice (some ⟨g, 0, none⟩) n c, x]).run Tryd.prog w = .ok (.slice (some ⟨g', 0, none⟩) (n + m) c') w' ∧ RowG w' B g' (n + m) c' (l ++ t) ∧ Mv g w w' ∧ (g' = g ∨ w.heap.size ≤ g') := by
  obtain ⟨i0, hi, hz0, hz1, hz2⟩ := info_parts info_u8
  have hs : Src Tryd.prog i0.size tx x m (bc t) w := by rw [hz1]; exact hs0
  have hbl : (bc t).length = m := by have := hs0.newsLen; omega
  have htl : t.length = m := by rw [← bc_len]; exact hbl
  have hll := bc_len l
  have hlen2 : (l ++ t).length = n + m := by rw [List.length_append, hr.len, htl]
  by_cases hroom : n + m ≤ c
  · have hrun := run_append_room_src (P := Tryd.prog) w 85 tx ty 5 i0 Tryd.underlying85 hi g 0 n c x m (bc t) hs hroom
      (fun j hj => by rw [hz1, Nat.zero_add, Nat.mul_one]; exact (hr.there (n + j) (by omega)).1) (fun j hj => by rw [hz1, Nat.zero_add, Nat.mul_one]; exact (hr.there (n + j) (by omega)).2)
    rw [hz1, Nat.zero_add, Nat.mul_one] at hrun
    refine ⟨g, c, _, hrun, ⟨hr.new, hlen2, hroom, hr.max, fun j hj => ?_, fun j hj => ⟨?_, ?_⟩⟩, mv_setCells g _ _ _, .inl rfl⟩
    · rw [bc_append]
      by_cases hjn : j < n
      · rw [World.cell?_setCells_out g (bc t) n w ⟨g, j, none⟩ (fun _ _ => .inl hjn), hr.holds j hjn, List.getElem?_append_left (by rw [hll, hr.len]; exact hjn)]
      · have hin := World.cell?_setCells_in g (bc t) n w (fun j hj => (hr.there (n + j) (by omega)).1) (j - n) (by omega)
        rw [show n + (j - n) = j by omega] at hin
        rw [hin, List.getElem?_append_right (by rw [hll, hr.len]; omega), hll, hr.len, List.getElem?_eq_getElem (by omega)]
    · exact World.isSome_setCells g (bc t) n w _ (hr.there j hj).1
    · rw [World.frozen?_setCells]; exact (hr.there j hj).2
  · have hold : (Builtin.firstCells i0.size n (.slice (some ⟨g, 0, none⟩) n c)).run Tryd.prog w.drew = .ok (bc l).toArray w.drew := by
      refine run_firstCells_some (P := Tryd.prog) w.drew i0.size n ⟨g, 0, none⟩ n c (bc l) (by rw [hz1, hll, hr.len]; omega) (fun j v hv => ?_)
      have hj : j < n := by
        have := (List.getElem?_eq_some_iff.1 hv).1
        rw [hll, hr.len] at this; exact this
      have hadd : (⟨g, 0, none⟩ : Addr).add j = ⟨g, j, none⟩ := by unfold Addr.add; split <;> simp_all
      rw [hadd]
      exact (hr.holds j hj).trans hv
    have hrun := run_append_grow_src (P := Tryd.prog) w 85 tx ty 5 i0 (.int .u8 0) Tryd.underlying85 hi hz0 (some ⟨g, 0, none⟩) n c (bc l) hold x m (bc t) hs (by omega) (by omega)
      (by rw [hz2]; exact growslice_fits (by omega) (by omega))
    have hge := grownCap_ge w (n + m) c 5
    have hcm := grownCap_le_maxLen w (n + m) c 5 (by unfold maxLen; omega)
    have hcell := fun j => World.cell?_alloc_new w.drew ((bc l ++ bc t).toArray ++ Builtin.zeroCells (Value.int .u8 0).cells (grownCap w (n + m) c 5 - (n + m))) 5 j
    have hsz : ((bc l ++ bc t).toArray ++ Builtin.zeroCells (Value.int .u8 0).cells (grownCap w (n + m) c 5 - (n + m))).size = grownCap w (n + m) c 5 := by
      have hz1' : (Value.int IntKind.u8 0).cells.size = 1 := rfl
      simp only [Array.size_append, List.size_toArray, List.length_append, size_zeroCells, hz1', hll, hr.len, hbl]
      omega
    refine ⟨w.heap.size, _, _, hrun, ⟨hB, hlen2, hge, hcm, fun j hj => ?_, fun j hj => ⟨?_, ?_⟩⟩, ((Gr.refl w).drew.allocO _).mv g, .inr (Nat.le_refl _)⟩
    · rw [show (w.drew.heap.size) = w.heap.size from rfl] at hcell
      rw [hcell j, Array.getElem?_append_left (by simp only [List.size_toArray, List.length_append, hll, hr.len, hbl]; exact hj), List.getElem?_toArray, bc_append]
    · rw [show (w.drew.heap.size) = w.heap.size from rfl] at hcell
      rw [hcell j, Array.getElem?_eq_getElem (by rw [hsz]; exact hj)]; rfl
    · have hb : (w.drew.alloc (.cells ((bc l ++ bc t).toArray ++ Builtin.zeroCells (Value.int .u8 0).cells (grownCap w (n + m) c 5 - (n + m))) 5)).heap[w.heap.size]? = some (.cells ((bc l ++ bc t).toArray ++ Builtin.zeroCells (Value.int .u8 0).cells (grownCap w (n + m) c 5 - (n + m))) 5) := heap_alloc_new w.drew _
      unfold World.frozen?
      rw [hb]
      simp
theorem ap_textS {ops : Array Oper} {rest : List Oper} {o : Oper} {a : Act} {Q : Exit → Act → World → Prop} (w : World) (hgd : o.guard = none) (sl x : Operand)
    (ho : o.op = .call { callee := .builtin .append, args := #[sl, x], argTypes := #[85, 9] })
    (B g n c : Nat) (l : List UInt8) (hs : a.eval sl = .slice (some ⟨g, 0, none⟩) n c) (hr : RowG w B g n c l) (s : ByteArray) (hx : a.eval x = .string s)
    (hlen : n + s.size ≤ 1000000) (hB : B ≤ w.heap.size)
    (h : ∀ g' c' w', RowG w' B g' (n + s.size) c' (l ++ s.data.toList) → Mv g w w' → (g' = g ∨ w.heap.size ≤ g') → wpList Tryd.prog ops Q rest (a.put o.dst (.slice (some ⟨g', 0, none⟩) (n + s.size) c')) w') : wpList Tryd.prog ops Q (o :: rest) a w := by
  refine wpList_plain hgd fun K hK => ?_
  obtain ⟨g', c', w', hrun, h2, h3, h4⟩ := run_apS w 9 o.type (.string s) s.size s.data.toList (Src.ofString w Tryd.underlying9 s) B g n c l hr hlen hB
  unfold Oper.wp execOp
  simp only [ho, resolve, invoke, builtin, Sem.run_bind, Sem.run_pure, Result.andThen_ok, List.map_toArray, List.map_cons, List.map_nil, hs, hx, hrun]
  exact hK _ _ (h g' c' w' h2 h3 h4)
theorem ap_byteS {ops : Array Oper} {rest : List Oper} {o : Oper} {a : Act} {Q : Exit → Act → World → Prop} (w : World) (hgd : o.guard = none) (sl x : Operand)
    (ho : o.op = .call { callee := .builtin .append, args := #[sl, x], argTypes := #[85, 85] })
    (B g n c : Nat) (l : List UInt8) (hs : a.eval sl = .slice (some ⟨g, 0, none⟩) n c) (hr : RowG w B g n c l) (b : UInt8) (hx : a.eval x = .slice (some ⟨w.heap.size, 0, none⟩) 1 1)
    (hlen : n + 1 ≤ 1000000) (hB : B ≤ w.heap.size)
    (h : ∀ g' c' w', RowG w' B g' (n + 1) c' (l ++ [b]) → Mv g w w' → (g' = g ∨ w.heap.size ≤ g') → wpList Tryd.prog ops Q rest (a.put o.dst (.slice (some ⟨g', 0, none⟩) (n + 1) c')) w') : wpList Tryd.prog ops Q (o :: rest) a (w.alloc (.cells #[.int .u8 (b.toNat : Int)] 5)) := by
  refine wpList_plain hgd fun K hK => ?_
  have hg : Gr w (w.alloc (.cells #[.int .u8 (b.toNat : Int)] 5)) := (Gr.refl w).allocO _
  obtain ⟨g', c', w', hrun, h2, h3, h4⟩ := run_apS (w.alloc (.cells #[.int .u8 (b.toNat : Int)] 5)) 85 o.type (.slice (some ⟨w.heap.size, 0, none⟩) 1 1) 1 [b]
    (Src.ofSlice _ Tryd.underlying85 ⟨w.heap.size, 0, none⟩ 1 1 (bc [b]) rfl (World.news_of_block (cs := #[.int .u8 (b.toNat : Int)]) (t := 5) (fr := (0, 0)) (heap_alloc_new w _)) (fun u hu => by
      obtain ⟨_, _, rfl⟩ := List.mem_map.1 hu
      rfl)) B g n c l (hr.gr hg) hlen (by have := hg.lt; omega)
  unfold Oper.wp execOp
  simp only [ho, resolve, invoke, builtin, Sem.run_bind, Sem.run_pure, Result.andThen_ok, List.map_toArray, List.map_cons, List.map_nil, hs, hx, hrun]
  refine hK _ _ (h g' c' w' h2 ((hg.mv g).trans h3) ?_)
  rcases h4 with h4 | h4
  · exact .inl h4
  · exact .inr (by have := hg.lt; omega)
end Go.Proofs.YtbfngdpdgmgfpaaDoor
namespace Go.Proofs.YtbfngdpdgmgfpaaDoor
open Go.RowKit

theorem RowG.lt {w : World} {B g n c : Nat} {l : List UInt8} (h : RowG w B g n c l) (hn : 0 < n) : g < w.heap.size := by
  obtain ⟨v, hv⟩ := Option.isSome_iff_exists.1 (h.there 0 (by have := h.le; omega)).1
  exact World.block_lt_of_cell? w ⟨g, 0, none⟩ hv
namespace Ln
theorem prPs_at (ps : List Par) (k : Nat) (hk : k < ps.length) (r : List UInt8) : r ++ (ps.take (k + 1)).flatMap prP = r ++ (ps.take k).flatMap prP ++ [59] ++ ps[k].1 ++ [61] ++ prV ps[k].2 := by
  rw [List.take_succ_eq_append_getElem hk, List.flatMap_append]
  simp [prP]
theorem formed_at {l : Li} (h : formed l = true) (k : Nat) (hk : k < l.ps.length) : ∀ v ∈ l.ps[k].2, Es.clE true v = 0 :=
  ((parB_iff _).1 (((psB_iff _).1 ((formed_iff l).1 h).2.2.2).1 _ (List.getElem_mem hk))).2.2.2
end Ln
set_option maxHeartbeats 8000000 in
set_option maxRecDepth 100000 in
theorem print_any (N V : ByteArray) (A : Option Addr) (n c : Nat) (ps : List Ln.Par) (w : World) (ht : Tab w) (hP : Pars w w.heap.size A n ps) (hnc : n ≤ c) (hC : Ln.Calm ps) (hvn : ∀ p ∈ ps, p.2.length ≤ 140737488355328) (hV : V.size ≤ 140737488355328) (hw0 : Ln.formed ⟨N.data.toList, ps, V.data.toList⟩ = true → N.size + V.size + Ln.wtPs ps ≤ 200000) :
    Calls Tryd.prog 44 #[.agg #[.string N, .slice A n c, .string V]] w fun e w' => e = .returned (.tuple #[.string ⟨(Ln.prT ⟨N.data.toList, ps, V.data.toList⟩).toArray⟩, .int .i64 (Ln.prE ⟨N.data.toList, ps, V.data.toList⟩)]) ∧ Gr w w' := by
  have hlen : ps.length = n := hP.1
  have hg0 : Gr w (w.alloc (.cells #[.string N, .slice A n c, .string V] 48)) := (Gr.refl w).allocO _
  have hx0 := Bx3.new w (.string N) (.slice A n c) (.string V) 48
  have cF := formed_any N V A n c ps _ (ht.keep hg0) (hP.gr hg0) hnc hC hvn hV
  cases hfm : Ln.formed ⟨N.data.toList, ps, V.data.toList⟩
  · obtain ⟨e1, e2⟩ := Ln.pr_no hfm
    rw [e1, e2]
    rw [hfm] at cF
    clear hfm e1 e2
    go_enter Tryd.func44, Tryd.ntmps44
    go_wp2_with (go_at_call 50; refine cF.mono ?_; rintro e w1 ⟨rfl, hg1⟩)
    go_ret2
    exact ⟨rfl, hg0.trans hg1⟩
  · rw [hfm] at cF
    have hw := hw0 hfm
    clear hw0 hC hvn
    have HOK := Lib.hid (fun h => Ln.pr_ok (l := ⟨N.data.toList, ps, V.data.toList⟩) hfm h)
    have HLG := Lib.hid (fun h => Ln.pr_long (l := ⟨N.data.toList, ps, V.data.toList⟩) hfm h)
    have HCL := Lib.hid (fun k hk => Ln.formed_at (l := ⟨N.data.toList, ps, V.data.toList⟩) hfm k hk)
    have HPR : Hid (Ln.pr ⟨N.data.toList, ps, V.data.toList⟩ = N.data.toList ++ ps.flatMap Ln.prP ++ [58] ++ V.data.toList) := Lib.hid (by simp [Ln.pr])
    have hN0 : 0 < N.size := by
      have := ((Ln.nameB_iff _).1 ((Ln.formed_iff _).1 hfm).1).1
      rw [Lib.size_eq]; exact this
    generalize Ln.prT ⟨N.data.toList, ps, V.data.toList⟩ = T at *
    generalize Ln.prE ⟨N.data.toList, ps, V.data.toList⟩ = E at *
    generalize Ln.pr ⟨N.data.toList, ps, V.data.toList⟩ = PR at *
    have HL := Lib.hid hlen
    have hnle : n ≤ 200000 := by have := Ln.wtPs_len ps; omega
    clear hfm hlen
    go_enter Tryd.func44, Tryd.ntmps44
    go_wp2_with fail
    refine cF.mono ?_
    rintro e w1 ⟨rfl, hg1⟩
    have hx1 := hx0.gr hg1
    have hg2 := hg0.trans hg1
    have hb1 := hx1.lt
    have ht1 := ht.keep hg2
    obtain ⟨cp, w2, hcv, hrow, hg3⟩ := conv_row w1 N (by omega)
    have hx2 := hx1.gr hg3
    have HX1 := Lib.hid hx1
    have HX2 := Lib.hid hx2
    obtain ⟨p0, p1, p2, p3, p4, p5⟩ := hx1
    obtain ⟨q0, q1, q2, q3, q4, q5⟩ := hx2
    clear cF hx0
    go_wp2
    go_loopg [4, 20] n (fun g v4 v20 wx => ∃ gb nb cb, ∃ k : Nat, v4 = .slice (some ⟨gb, 0, none⟩) nb cb ∧ v20 = .int .i64 (k : Int) ∧ k + g = n ∧ Below w1.heap.size w1 wx ∧ w1.heap.size ≤ wx.heap.size ∧ 0 < nb ∧ RowG wx w1.heap.size gb nb cb (N.data.toList ++ (ps.take k).flatMap Ln.prP))
    case atStart => exact ⟨_, _, _, 0, rfl, rfl, by omega, hg3.below, hg3.lt, hN0, by simpa using hrow⟩
    case round =>
      obtain ⟨gb, nb, cb, k, rfl, rfl, hkg, hbx, hszx, hnb0, hrx⟩ := hrel
      have hgx := hrx.lt hnb0
      have HG := Lib.hid hkg
      have hnbl := hrx.len
      clear hkg p0 p1 p2 p3 p4 p5 q0 q1 q2 q3 q4 q5 hcv hrow
      rw [List.length_append, ← Lib.size_eq] at hnbl
      have hfl := Ln.prPs_len (ps.take k)
      by_cases hk : k < n
      · obtain ⟨ad, hk', rfl, hbl, hc0', A', n', c', hc1', hS⟩ := (hP.keep hg2.below).at_ hk
        have hc0 := (hbx.cell (p := ad.add (k * 2)) (by rw [add_block]; omega)).trans hc0'
        have hc1 := (hbx.cell (p := ⟨(ad.add (k * 2)).block, (ad.add (k * 2)).off + 1, none⟩) (by show (ad.add (k * 2)).block < _; rw [add_block]; omega)).trans hc1'
        have hwt := Ln.wtPs_take ps k hk'
        have hwl := Ln.wtPs_le ps (k + 1)
        have HAT := Lib.hid (Ln.prPs_at ps k hk' N.data.toList)
        have HC := Lib.hid (HCL.out k hk')
        have hpn : ps[k].1.length + 1 + Ln.wtV ps[k].2 = Ln.wtP ps[k] := rfl
        have hnb : nb ≤ N.size + 3 * Ln.wtPs (ps.take k) := by omega
        have hgA : Gr wr (wr.alloc (.cells #[.string ⟨ps[k].1.toArray⟩, .slice A' n' c'] 79)) := (Gr.refl wr).allocO _
        have hyA := Bx2.new wr (.string ⟨ps[k].1.toArray⟩) (.slice A' n' c') 79
        have hrA := hrx.gr hgA
        have hszA : w1.heap.size ≤ (wr.alloc (.cells #[.string ⟨ps[k].1.toArray⟩, .slice A' n' c'] 79)).heap.size := by have := hgA.lt; omega
        have hzA : (wr.alloc (.cells #[.string ⟨ps[k].1.toArray⟩, .slice A' n' c'] 79)).heap.size = wr.heap.size + 1 := by simp
        have hbA : Below w1.heap.size w1 (wr.alloc (.cells #[.string ⟨ps[k].1.toArray⟩, .slice A' n' c'] 79)) := hbx.trans (hgA.low hszx)
        have hnz : (ByteArray.mk ps[k].1.toArray).size = ps[k].1.length := size_mk _
        have HND : Hid ((ByteArray.mk ps[k].1.toArray).data.toList = ps[k].1) := Lib.hid rfl
        rw [← hnz] at hpn
        clear hrx hnbl hfl hgA hbx hszx hnz hc0' hc1'
        generalize (ByteArray.mk ps[k].1.toArray) = nm at *
        go_wp2_with (first
          | (at_builtin; refine ap_byteS (wr.alloc (.cells #[.string nm, .slice A' n' c'] 79)) rfl (.tmp 24) (.tmp 25) rfl w1.heap.size gb nb cb _ rfl hrA 59 (by rw [hzA]; rfl) (by omega) hszA ?_; intro g2 c2 w3 hr3 hm3 hd3; have hy3 := hyA.mv hm3 (by omega); have y0 := hy3.c0; have hsz3 : w1.heap.size ≤ w3.heap.size := Nat.le_trans hszA hm3.lt; have hb3 := hbA.trans (hm3.low hrA.new hszA))
          | (at_builtin; refine ap_textS w3 rfl (.tmp 27) (.tmp 29) rfl w1.heap.size g2 (nb + 1) c2 _ rfl hr3 nm rfl (by omega) hsz3 ?_; intro g4 c4 w4 hr4 hm4 hd4; have hy4 := hy3.mv hm4 (by omega); have hsz4 : w1.heap.size ≤ w4.heap.size := Nat.le_trans hsz3 hm4.lt; have hb4 := hb3.trans (hm4.low hr3.new hsz3))
          | (at_builtin; refine ap_byteS w4 rfl (.tmp 31) (.tmp 32) rfl w1.heap.size g4 (nb + 1 + nm.size) c4 _ rfl hr4 61 rfl (by omega) hsz4 ?_; intro g5 c5 w5 hr5 hm5 hd5; have hm3z := hm3.lt; have hm4z := hm4.lt; have hy5 := hy4.mv hm5 (by omega); have y1 := hy5.c1; have hsz5 : w1.heap.size ≤ w5.heap.size := Nat.le_trans hsz4 hm5.lt; have hb5 := hb4.trans (hm5.low hr4.new hsz4)))
        have hgl5 : 0 < nb + 1 + nm.size + 1 := by omega
        have HBS : Hid (N.data.toList ++ (ps.take (k + 1)).flatMap Ln.prP = N.data.toList ++ (ps.take k).flatMap Ln.prP ++ [59] ++ nm.data.toList ++ [61] ++ Ln.prV ps[k].2) := Lib.hid (by rw [HND.out]; exact HAT.out)
        have hm0 : nb + 1 + nm.size + 1 + 3 * Ln.wtV ps[k].2 ≤ 900000 := by omega
        have hml := hr5.len
        clear hr3 hr4 hm3 hm4 hm5 hy3 hy4 hy5 y0 y1 hd3 hd4 hd5 hrA hyA hbA hszA hzA HAT hpn hwl hwt hnb hb3 hb4 hsz3 hsz4 hc0 hc1 hm3z hm4z hgx HND
        generalize N.data.toList ++ (ps.take k).flatMap Ln.prP ++ [59] ++ nm.data.toList ++ [61] = bs at *
        generalize nb + 1 + nm.size + 1 = m0 at *
        have hvl := hS.1
        obtain ⟨vs, hvs⟩ : ∃ vs, ps[k].2 = vs := ⟨_, rfl⟩
        rw [hvs] at hS HC HBS hm0 hvl
        have HVL := Lib.hid hvl
        have hnle' : n' ≤ 300000 := by have := Ln.wtV_len vs; omega
        clear hvl hvs
        go_loopg [4, 37] n' (fun g v4 v37 wy => ∃ gb nb cb, ∃ i : Nat, v4 = .slice (some ⟨gb, 0, none⟩) nb cb ∧ v37 = .int .i64 (i : Int) ∧ i + g = n' ∧ Below w1.heap.size w1 wy ∧ w1.heap.size ≤ wy.heap.size ∧ 0 < nb ∧ RowG wy w1.heap.size gb nb cb (bs ++ Ln.prV (vs.take i)))
        case atStart => exact ⟨_, _, _, 0, rfl, rfl, by omega, hb5, hsz5, hgl5, by simpa [Ln.prV] using hr5⟩
        case round =>
          obtain ⟨gy, ny, cy, i, rfl, rfl, hig, hby, hszy, hgy, hry⟩ := hrel
          have HGI := Lib.hid hig
          have hnyl := hry.len
          clear hig hb5 hsz5 hgl5 hr5
          rw [List.length_append, hml] at hnyl
          have hfl := Ln.prV_len (vs.take i)
          by_cases hi : i < n'
          · obtain ⟨av, hi', rfl, hbv, hcv0⟩ := hS.at_ hi
            have hcv := (hby.cell (p := av.add i) (by rw [add_block]; omega)).trans hcv0
            have hwv := Ln.wtV_take vs i hi'
            have hwvl := Ln.wtV_le vs (i + 1)
            have hmem : vs[i] ∈ vs := List.getElem_mem hi'
            have hcl := HC.out _ hmem
            have hvz := Ln.wtV_mem hmem
            have hpq := Es.pq_len vs[i]
            have cP := fun w' (t' : Tab w') => param_any ⟨vs[i].toArray⟩ w' t' (by rw [size_mk]; omega)
            have e1 : (ByteArray.mk vs[i].toArray).data.toList = vs[i] := rfl
            rw [e1, Es.pqT_ok hcl, hcl] at cP
            have hpz : (ByteArray.mk (Es.pq vs[i]).toArray).size = (Es.pq vs[i]).length := size_mk _
            rw [← hpz] at hpq
            have HPD : Hid ((ByteArray.mk (Es.pq vs[i]).toArray).data.toList = Es.pq vs[i]) := Lib.hid rfl
            have HV0 := Lib.hid (fun (h : i = 0) => show Ln.prV (vs.take (i + 1)) = Ln.prV (vs.take i) ++ Es.pq vs[i] by subst h; exact Ln.prV_at0 vs hi')
            have HV1 := Lib.hid (fun (h : 0 < i) => Ln.prV_at vs i hi' h)
            have hny : ny ≤ m0 + 3 * Ln.wtV (vs.take i) := by omega
            clear hpz e1 hcl hmem hnyl hfl hcv0
            generalize (ByteArray.mk vs[i].toArray) = vb at *
            generalize (ByteArray.mk (Es.pq vs[i]).toArray) = pw at *
            rcases Nat.eq_zero_or_pos i with h0 | h0
            · have hi0 : ¬ (0 : Int) < (i : Int) := by omega
              have HV := Lib.hid (HV0.out h0)
              clear h0 HV0 HV1
              have cP2 := cP wr (ht1.below hby ht1.lt)
              go_wp2_with (first
                | (go_at_call 65; refine cP2.mono ?_; rintro e w7 ⟨rfl, hg7⟩; have hr7 := hry.gr hg7; have hsz7 : w1.heap.size ≤ w7.heap.size := Nat.le_trans hszy hg7.lt; have hb7 := hby.trans (hg7.low hszy))
                | (at_builtin; refine ap_textS w7 rfl (.tmp 52) (.tmp 53) rfl w1.heap.size gy ny cy _ rfl hr7 pw rfl (by omega) hsz7 ?_; intro g8 c8 w8 hr8 hm8 hd8; have hsz8 : w1.heap.size ≤ w8.heap.size := Nat.le_trans hsz7 hm8.lt; have hb8 := hb7.trans (hm8.low hr7.new hsz7)))
              go_roundg (n' - (i + 1))
              case measure => have := HGI.out; omega
              case rel =>
                refine ⟨g8, _, c8, i + 1, rfl, by go_num, by omega, hb8, hsz8, by omega, ?_⟩
                rw [HV.out, ← List.append_assoc, ← HPD.out]; exact hr8
            · have hi0 : (0 : Int) < (i : Int) := by omega
              have HV := Lib.hid (HV1.out h0)
              clear h0 HV0 HV1
              go_wp2_with (first
                | (at_builtin; refine ap_byteS wr rfl (.tmp 44) (.tmp 45) rfl w1.heap.size gy ny cy _ rfl hry 44 rfl (by omega) hszy ?_; intro g6 c6 w6 hr6 hm6 hd6; have hsz6 : w1.heap.size ≤ w6.heap.size := Nat.le_trans hszy hm6.lt; have hb6 := hby.trans (hm6.low hry.new hszy))
                | (go_at_call 65; refine (cP w6 (ht1.below hb6 ht1.lt)).mono ?_; rintro e w7 ⟨rfl, hg7⟩; have hr7 := hr6.gr hg7; have hsz7 : w1.heap.size ≤ w7.heap.size := Nat.le_trans hsz6 hg7.lt; have hb7 := hb6.trans (hg7.low hsz6))
                | (at_builtin; refine ap_textS w7 rfl (.tmp 52) (.tmp 53) rfl w1.heap.size g6 (ny + 1) c6 _ rfl hr7 pw rfl (by omega) hsz7 ?_; intro g8 c8 w8 hr8 hm8 hd8; have hsz8 : w1.heap.size ≤ w8.heap.size := Nat.le_trans hsz7 hm8.lt; have hb8 := hb7.trans (hm8.low hr7.new hsz7)))
              go_roundg (n' - (i + 1))
              case measure => have := HGI.out; omega
              case rel =>
                refine ⟨g8, _, c8, i + 1, rfl, by go_num, by omega, hb8, hsz8, by omega, ?_⟩
                have e2 : bs ++ (Ln.prV (vs.take i) ++ 44 :: Es.pq vs[i]) = bs ++ Ln.prV (vs.take i) ++ [44] ++ Es.pq vs[i] := by simp
                rw [HV.out, e2, ← HPD.out]; exact hr8
          · obtain rfl : i = n' := by have := HGI.out; omega
            rw [List.take_of_length_le (by rw [HVL.out]; exact Nat.le_refl _), ← HBS.out] at hry
            clear hnyl hfl
            go_wp2
            go_roundg (n - (k + 1))
            case measure => have := HG.out; omega
            case rel => exact ⟨gy, ny, cy, k + 1, rfl, by go_num, by omega, hby, hszy, by omega, hry⟩
      · obtain rfl : k = n := by have := HG.out; omega
        rw [List.take_of_length_le (by rw [HL.out]; exact Nat.le_refl _)] at hrx hnbl hfl
        have hxx := HX1.out.below hbx (by omega)
        have hv2 := hxx.c2
        have hnb : nb ≤ N.size + 3 * Ln.wtPs ps := by omega
        have hgb := hg2.below.trans (hbx.mono (by omega : w.heap.size ≤ w1.heap.size))
        clear hnbl hfl
        have HB : Hid (Below w.heap.size w wr) := Lib.hid hgb
        by_cases hlong : 2000 < nb + 1 + V.size
        · go_wp2_with (first
            | (at_builtin; refine ap_byteS wr rfl (.tmp 57) (.tmp 58) rfl w1.heap.size gb nb cb _ rfl hrx 58 rfl (by omega) hszx ?_; intro g6 c6 w6 hr6 hm6 hd6; have hsz6 : w1.heap.size ≤ w6.heap.size := Nat.le_trans hszx hm6.lt; have hb6 := hbx.trans (hm6.low hrx.new hszx); have hv6 := (HX1.out.below hb6 (by omega)).c2)
            | (at_builtin; refine ap_textS w6 rfl (.tmp 60) (.tmp 62) rfl w1.heap.size g6 (nb + 1) c6 _ rfl hr6 V rfl (by omega) hsz6 ?_; intro g8 c8 w8 hr8 hm8 hd8; have hb8 := hb6.trans (hm8.low hr6.new hsz6)))
          have HE := Lib.hid (HLG.out (by
            have h1 := hr8.len
            rw [HPR.out, h1]; exact hlong))
          have hli : (2000 : Int) < (nb : Int) + 1 + (V.size : Int) := by omega
          go_wp2
          go_ret2
          exact ⟨by rw [HE.out.1, HE.out.2]; first | done | rfl, ⟨hg2.below.trans (hb8.mono (by omega))⟩⟩
        · have hli : ¬ (2000 : Int) < (nb : Int) + 1 + (V.size : Int) := by omega
          go_wp2_with (first
            | (at_builtin; refine ap_byteS wr rfl (.tmp 57) (.tmp 58) rfl w1.heap.size gb nb cb _ rfl hrx 58 rfl (by omega) hszx ?_; intro g6 c6 w6 hr6 hm6 hd6; have hsz6 : w1.heap.size ≤ w6.heap.size := Nat.le_trans hszx hm6.lt; have hb6 := hbx.trans (hm6.low hrx.new hszx); have hv6 := (HX1.out.below hb6 (by omega)).c2)
            | (at_builtin; refine ap_textS w6 rfl (.tmp 60) (.tmp 62) rfl w1.heap.size g6 (nb + 1) c6 _ rfl hr6 V rfl (by omega) hsz6 ?_; intro g8 c8 w8 hr8 hm8 hd8; have hb8 := hb6.trans (hm8.low hr6.new hsz6); have hbk := conv_backG hr8; rw [← HPR.out] at hbk))
          have HE := Lib.hid (HOK.out (by
            have h1 := hr8.len
            rw [HPR.out, h1]; omega))
          go_ret2
          exact ⟨by rw [HE.out.1, HE.out.2]; first | done | rfl, ⟨hg2.below.trans (hb8.mono (by omega))⟩⟩
end Go.Proofs.YtbfngdpdgmgfpaaDoor
namespace Go.Proofs.YtbfngdpdgmgfpaaDoor
open Go.RowKit

set_option maxHeartbeats 1000000 in
theorem sleq_any (A A2 : Option Addr) (n c n2 c2 : Nat) (ls ms : List (List UInt8)) (w : World) (hS : Strs w w.heap.size A n ls) (hS2 : Strs w w.heap.size A2 n2 ms) (hn : n ≤ 140737488355328) (q : Bool) (hq : q = true ↔ ls = ms) :
    Calls Tryd.prog 64 #[.slice A n c, .slice A2 n2 c2] w fun e w' => e = .returned (.bool q) ∧ ∃ d, w' = w.drewN d := by
  have hl : ls.length = n := hS.1
  have hl2 : ms.length = n2 := hS2.1
  by_cases hnn : n = n2
  · subst hnn
    have HL := Lib.hid (And.intro hl hl2)
    have HQ := Lib.hid hq
    clear hl hl2 hq
    go_enter Tryd.func64, Tryd.ntmps64
    go_wp2
    go_loopg [13] n (fun g v wx => ∃ k : Nat, v = .int .i64 (k : Int) ∧ k + g = n ∧ (∃ d, wx = w.drewN d) ∧ Hid (ls.take k = ms.take k))
    case atStart => exact ⟨0, rfl, by omega, ⟨0, rfl⟩, Lib.hid (by simp)⟩
    case round =>
      obtain ⟨k, rfl, hkg, ⟨d, rfl⟩, HT⟩ := hrel
      have HG := Lib.hid hkg
      clear hkg
      by_cases hk : k < n
      · obtain ⟨ad, hk', rfl, hbl, hcell⟩ := hS.at_ hk
        obtain ⟨ad2, hk2, rfl, hbl2, hcell2⟩ := hS2.at_ hk
        have HT1 := Lib.hid (List.take_succ_eq_append_getElem hk')
        have HT2 := Lib.hid (List.take_succ_eq_append_getElem hk2)
        have HX := Lib.hid (fun (h : ls = ms) => show ls[k] = ms[k] by subst h; rfl)
        by_cases he : ls[k] = ms[k]
        · have hs1 : ((ByteArray.mk ls[k].toArray).toList == (ByteArray.mk ms[k].toArray).toList) = true := str_eq ⟨fun _ => he, fun _ => rfl⟩
          have HE : Hid (ls.take (k + 1) = ms.take (k + 1)) := Lib.hid (by rw [HT1.out, HT2.out, HT.out, he])
          clear he HX HT1 HT2
          generalize (ByteArray.mk ls[k].toArray) = s1 at *
          generalize (ByteArray.mk ms[k].toArray) = s2 at *
          go_wp2
          go_quiet (fail)
          go_wp2
          go_roundg (n - (k + 1))
          case measure => have := HG.out; omega
          case rel => exact ⟨k + 1, by go_num, by omega, ⟨_, rfl⟩, HE⟩
        · have hs1 : ((ByteArray.mk ls[k].toArray).toList == (ByteArray.mk ms[k].toArray).toList) = false := str_eq ⟨fun h => (by cases h), fun h => absurd h he⟩
          have HE : Hid (q = false) := Lib.hid (by
            cases hc : q
            · rfl
            · exact absurd (HX.out (HQ.out.1 hc)) he)
          clear he HX HT1 HT2
          generalize (ByteArray.mk ls[k].toArray) = s1 at *
          generalize (ByteArray.mk ms[k].toArray) = s2 at *
          go_wp2
          go_quiet (fail)
          go_wp2
          go_ret
          exact ⟨ret_bool HE.out.symm, _, World.drewN_drewN _ _ _⟩
      · obtain rfl : k = n := by have := HG.out; omega
        have HE : Hid (q = true) := Lib.hid (HQ.out.2 (by
          have h := HT.out
          rwa [List.take_of_length_le (by rw [HL.out.1]; exact Nat.le_refl _), List.take_of_length_le (by rw [HL.out.2]; exact Nat.le_refl _)] at h))
        go_wp2
        go_ret
        exact ⟨ret_bool HE.out.symm, d, rfl⟩
  · have HE : Hid (q = false) := Lib.hid (by
      cases hc : q
      · rfl
      · exact absurd (by rw [← hl, ← hl2, hq.1 hc]) hnn)
    have hne : ((n : Int) == (n2 : Int)) = false := by rw [beq_eq_false_iff_ne]; omega
    clear hl hl2 hq hnn
    go_enter Tryd.func64, Tryd.ntmps64
    go_wp2
    go_ret
    exact ⟨ret_bool HE.out.symm, 0, rfl⟩
set_option maxHeartbeats 1000000 in
theorem lsame_any (A A2 : Option Addr) (n c n2 c2 : Nat) (ls ms : List (List UInt8)) (w : World) (hS : Strs w w.heap.size A n ls) (hS2 : Strs w w.heap.size A2 n2 ms) (hn : n ≤ 140737488355328) (q : Bool) (hq : q = true ↔ ls = ms) :
    Calls Tryd.prog 42 #[.slice A n c, .slice A2 n2 c2] w fun e w' => e = .returned (.bool q) ∧ ∃ d, w' = w.drewN d := by
  have hl : ls.length = n := hS.1
  have hl2 : ms.length = n2 := hS2.1
  by_cases hnn : n = n2
  · subst hnn
    have HL := Lib.hid (And.intro hl hl2)
    have HQ := Lib.hid hq
    clear hl hl2 hq
    go_enter Tryd.func42, Tryd.ntmps42
    go_wp2
    go_loopg [13] n (fun g v wx => ∃ k : Nat, v = .int .i64 (k : Int) ∧ k + g = n ∧ (∃ d, wx = w.drewN d) ∧ Hid (ls.take k = ms.take k))
    case atStart => exact ⟨0, rfl, by omega, ⟨0, rfl⟩, Lib.hid (by simp)⟩
    case round =>
      obtain ⟨k, rfl, hkg, ⟨d, rfl⟩, HT⟩ := hrel
      have HG := Lib.hid hkg
      clear hkg
      by_cases hk : k < n
      · obtain ⟨ad, hk', rfl, hbl, hcell⟩ := hS.at_ hk
        obtain ⟨ad2, hk2, rfl, hbl2, hcell2⟩ := hS2.at_ hk
        have HT1 := Lib.hid (List.take_succ_eq_append_getElem hk')
        have HT2 := Lib.hid (List.take_succ_eq_append_getElem hk2)
        have HX := Lib.hid (fun (h : ls = ms) => show ls[k] = ms[k] by subst h; rfl)
        by_cases he : ls[k] = ms[k]
        · have hs1 : ((ByteArray.mk ls[k].toArray).toList == (ByteArray.mk ms[k].toArray).toList) = true := str_eq ⟨fun _ => he, fun _ => rfl⟩
          have HE : Hid (ls.take (k + 1) = ms.take (k + 1)) := Lib.hid (by rw [HT1.out, HT2.out, HT.out, he])
          clear he HX HT1 HT2
          generalize (ByteArray.mk ls[k].toArray) = s1 at *
          generalize (ByteArray.mk ms[k].toArray) = s2 at *
          go_wp2
          go_quiet (fail)
          go_wp2
          go_roundg (n - (k + 1))
          case measure => have := HG.out; omega
          case rel => exact ⟨k + 1, by go_num, by omega, ⟨_, rfl⟩, HE⟩
        · have hs1 : ((ByteArray.mk ls[k].toArray).toList == (ByteArray.mk ms[k].toArray).toList) = false := str_eq ⟨fun h => (by cases h), fun h => absurd h he⟩
          have HE : Hid (q = false) := Lib.hid (by
            cases hc : q
            · rfl
            · exact absurd (HX.out (HQ.out.1 hc)) he)
          clear he HX HT1 HT2
          generalize (ByteArray.mk ls[k].toArray) = s1 at *
          generalize (ByteArray.mk ms[k].toArray) = s2 at *
          go_wp2
          go_quiet (fail)
          go_wp2
          go_ret
          exact ⟨ret_bool HE.out.symm, _, World.drewN_drewN _ _ _⟩
      · obtain rfl : k = n := by have := HG.out; omega
        have HE : Hid (q = true) := Lib.hid (HQ.out.2 (by
          have h := HT.out
          rwa [List.take_of_length_le (by rw [HL.out.1]; exact Nat.le_refl _), List.take_of_length_le (by rw [HL.out.2]; exact Nat.le_refl _)] at h))
        go_wp2
        go_ret
        exact ⟨ret_bool HE.out.symm, d, rfl⟩
  · have HE : Hid (q = false) := Lib.hid (by
      cases hc : q
      · rfl
      · exact absurd (by rw [← hl, ← hl2, hq.1 hc]) hnn)
    have hne : ((n : Int) == (n2 : Int)) = false := by rw [beq_eq_false_iff_ne]; omega
    clear hl hl2 hq hnn
    go_enter Tryd.func42, Tryd.ntmps42
    go_wp2
    go_ret
    exact ⟨ret_bool HE.out.symm, 0, rfl⟩
theorem gr_of_drew {w w' : World} (h : ∃ d, w' = w.drewN d) : Gr w w' := by
  obtain ⟨d, rfl⟩ := h
  exact (Gr.refl w).drewN d
set_option maxHeartbeats 1000000 in
theorem eqpar_any (a b : ByteArray) (A A2 : Option Addr) (n c n2 c2 : Nat) (ls ms : List (List UInt8)) (w : World) (hS : Strs w w.heap.size A n ls) (hS2 : Strs w w.heap.size A2 n2 ms) (hn : n ≤ 140737488355328) (q : Bool) (hq : q = true ↔ (a.data.toList = b.data.toList ∧ ls = ms)) :
    Calls Tryd.prog 41 #[.agg #[.string a, .slice A n c], .agg #[.string b, .slice A2 n2 c2]] w fun e w' => e = .returned (.bool q) ∧ Gr w w' := by
  have hg0 : Gr w (w.alloc (.cells #[.string a, .slice A n c] 79)) := (Gr.refl w).allocO _
  have hg1 : Gr w ((w.alloc (.cells #[.string a, .slice A n c] 79)).alloc (.cells #[.string b, .slice A2 n2 c2] 79)) := hg0.allocO _
  by_cases he : a.data.toList = b.data.toList
  · have hs1 : (a.toList == b.toList) = true := str_eq ⟨fun _ => he, fun _ => rfl⟩
    have cE := sleq_any A A2 n c n2 c2 ls ms _ ((hS.keep hg1.below).more hg1.lt) ((hS2.keep hg1.below).more hg1.lt) hn q (by rw [hq]; exact ⟨fun h => h.2, fun h => ⟨he, h⟩⟩)
    clear he hq hS hS2
    go_enter Tryd.func41, Tryd.ntmps41
    go_wp2_with (go_at_call 64; refine cE.mono ?_; rintro e w1 ⟨rfl, hd⟩)
    go_ret
    exact ⟨rfl, hg1.trans (gr_of_drew hd)⟩
  · have hs1 : (a.toList == b.toList) = false := str_eq ⟨fun h => (by cases h), fun h => absurd h he⟩
    have HE : Hid (q = false) := Lib.hid (by
      cases hc : q
      · rfl
      · exact absurd (hq.1 hc).1 he)
    clear he hq
    go_enter Tryd.func41, Tryd.ntmps41
    go_wp2
    go_ret
    exact ⟨ret_bool HE.out.symm, hg1⟩
set_option maxHeartbeats 2000000 in
theorem eqf_any (A A2 : Option Addr) (n c n2 c2 : Nat) (ps qs : List Ln.Par) (w : World) (hP : Pars w w.heap.size A n ps) (hQ : Pars w w.heap.size A2 n2 qs) (hn : n ≤ 140737488355328) (hv : ∀ p ∈ ps, p.2.length ≤ 140737488355328) (q : Bool) (hq : q = true ↔ ps = qs) :
    Calls Tryd.prog 40 #[.slice A n c, .slice A2 n2 c2, .func (.func 41) #[] #[]] w fun e w' => e = .returned (.bool q) ∧ Gr w w' := by
  have hl : ps.length = n := hP.1
  have hl2 : qs.length = n2 := hQ.1
  by_cases hnn : n = n2
  · subst hnn
    have HL := Lib.hid (And.intro hl hl2)
    have HQ := Lib.hid hq
    clear hl hl2 hq
    go_enter Tryd.func40, Tryd.ntmps40
    go_wp2
    go_loopg [17] n (fun g v wx => ∃ k : Nat, v = .int .i64 (k : Int) ∧ k + g = n ∧ Gr w wx ∧ Hid (ps.take k = qs.take k))
    case atStart => exact ⟨0, rfl, by omega, Gr.refl _, Lib.hid (by simp)⟩
    case round =>
      obtain ⟨k, rfl, hkg, hg, HT⟩ := hrel
      have HG := Lib.hid hkg
      clear hkg
      by_cases hk : k < n
      · obtain ⟨ad, hk', rfl, hbl, hc0', A', n', c', hc1', hS⟩ := hP.at_ hk
        obtain ⟨ad2, hk2, rfl, hbl2, hd0', A2', n2', c2', hd1', hS2⟩ := hQ.at_ hk
        have hc0 := (hg.below.cell (p := ad.add (k * 2)) (by rw [add_block]; exact hbl)).trans hc0'
        have hc1 := (hg.below.cell (p := ⟨(ad.add (k * 2)).block, (ad.add (k * 2)).off + 1, none⟩) (by show (ad.add (k * 2)).block < _; rw [add_block]; exact hbl)).trans hc1'
        have hd0 := (hg.below.cell (p := ad2.add (k * 2)) (by rw [add_block]; exact hbl2)).trans hd0'
        have hd1 := (hg.below.cell (p := ⟨(ad2.add (k * 2)).block, (ad2.add (k * 2)).off + 1, none⟩) (by show (ad2.add (k * 2)).block < _; rw [add_block]; exact hbl2)).trans hd1'
        have hblr : ad2.block < wr.heap.size := Nat.lt_of_lt_of_le hbl2 hg.lt
        have hgA : Gr wr (wr.alloc (.cells #[.string ⟨ps[k].1.toArray⟩, .slice A' n' c'] 79)) := (Gr.refl wr).allocO _
        have hgB : Gr wr ((wr.alloc (.cells #[.string ⟨ps[k].1.toArray⟩, .slice A' n' c'] 79)).alloc (.cells #[.string ⟨qs[k].1.toArray⟩, .slice A2' n2' c2'] 79)) := hgA.allocO _
        have he0 := (hgA.below.cell (p := ad2.add (k * 2)) (by rw [add_block]; exact hblr)).trans hd0
        have he1 := (hgA.below.cell (p := ⟨(ad2.add (k * 2)).block, (ad2.add (k * 2)).off + 1, none⟩) (by show (ad2.add (k * 2)).block < _; rw [add_block]; exact hblr)).trans hd1
        have hxA := (Bx2.new wr (.string ⟨ps[k].1.toArray⟩) (.slice A' n' c') 79).gr ((Gr.refl _).allocO (.cells #[.string ⟨qs[k].1.toArray⟩, .slice A2' n2' c2'] 79))
        have hgW := hg.trans hgB
        have hnv : n' ≤ 140737488355328 := by have := hS.1; have := hv _ (List.getElem_mem hk'); omega
        have cE := eqpar_any ⟨ps[k].1.toArray⟩ ⟨qs[k].1.toArray⟩ A' A2' n' c' n2' c2' ps[k].2 qs[k].2 _ ((hS.keep hgW.below).more hgW.lt) ((hS2.keep hgW.below).more hgW.lt) hnv
        have HT1 := Lib.hid (List.take_succ_eq_append_getElem hk')
        have HT2 := Lib.hid (List.take_succ_eq_append_getElem hk2)
        have HX := Lib.hid (fun (h : ps = qs) => show ps[k] = qs[k] by subst h; rfl)
        have x0 := hxA.c0
        have x1 := hxA.c1
        by_cases he : ps[k] = qs[k]
        · have cE1 := cE true ⟨fun _ => ⟨congrArg Prod.fst he, congrArg Prod.snd he⟩, fun _ => rfl⟩
          have HE : Hid (ps.take (k + 1) = qs.take (k + 1)) := Lib.hid (by rw [HT1.out, HT2.out, HT.out, he])
          clear he HX HT1 HT2 cE hS hS2 hc0' hc1' hd0' hd1' hxA
          generalize (ByteArray.mk ps[k].1.toArray) = s1 at *
          generalize (ByteArray.mk qs[k].1.toArray) = s2 at *
          go_wp2_with (go_at_call 41; refine cE1.mono ?_; rintro e w1 ⟨rfl, hg1⟩)
          go_roundg (n - (k + 1))
          case measure => have := HG.out; omega
          case rel => exact ⟨k + 1, by go_num, by omega, hgW.trans hg1, HE⟩
        · have cE1 := cE false ⟨fun h => (by cases h), fun h => absurd (Prod.ext h.1 h.2) he⟩
          have HE : Hid (q = false) := Lib.hid (by
            cases hc : q
            · rfl
            · exact absurd (HX.out (HQ.out.1 hc)) he)
          clear he HX HT1 HT2 cE hS hS2 hc0' hc1' hd0' hd1' hxA
          generalize (ByteArray.mk ps[k].1.toArray) = s1 at *
          generalize (ByteArray.mk qs[k].1.toArray) = s2 at *
          go_wp2_with (go_at_call 41; refine cE1.mono ?_; rintro e w1 ⟨rfl, hg1⟩)
          go_ret
          exact ⟨ret_bool HE.out.symm, hgW.trans hg1⟩
      · obtain rfl : k = n := by have := HG.out; omega
        have HE : Hid (q = true) := Lib.hid (HQ.out.2 (by
          have h := HT.out
          rwa [List.take_of_length_le (by rw [HL.out.1]; exact Nat.le_refl _), List.take_of_length_le (by rw [HL.out.2]; exact Nat.le_refl _)] at h))
        go_wp2
        go_ret
        exact ⟨ret_bool HE.out.symm, hg⟩
  · have HE : Hid (q = false) := Lib.hid (by
      cases hc : q
      · rfl
      · exact absurd (by rw [← hl, ← hl2, hq.1 hc]) hnn)
    have hne : ((n : Int) == (n2 : Int)) = false := by rw [beq_eq_false_iff_ne]; omega
    clear hl hl2 hq hnn
    go_enter Tryd.func40, Tryd.ntmps40
    go_wp2
    go_ret
    exact ⟨ret_bool HE.out.symm, Gr.refl _⟩
set_option maxHeartbeats 2000000 in
theorem equal_any (N V N2 V2 : ByteArray) (A A2 : Option Addr) (n c n2 c2 : Nat) (ps qs : List Ln.Par) (w : World) (hP : Pars w w.heap.size A n ps) (hQ : Pars w w.heap.size A2 n2 qs) (hn : n ≤ 140737488355328) (hv : ∀ p ∈ ps, p.2.length ≤ 140737488355328) (q : Bool) (hq : q = true ↔ (N.data.toList = N2.data.toList ∧ V.data.toList = V2.data.toList ∧ ps = qs)) :
    Calls Tryd.prog 21 #[.agg #[.string N, .slice A n c, .string V], .agg #[.string N2, .slice A2 n2 c2, .string V2]] w fun e w' => e = .returned (.bool q) ∧ Gr w w' := by
  have hg1 : Gr w ((w.alloc (.cells #[.string N, .slice A n c, .string V] 48)).alloc (.cells #[.string N2, .slice A2 n2 c2, .string V2] 48)) := ((Gr.refl w).allocO _).allocO _
  by_cases h1 : N.data.toList = N2.data.toList
  · have hs1 : (N.toList == N2.toList) = true := str_eq ⟨fun _ => h1, fun _ => rfl⟩
    by_cases h2 : V.data.toList = V2.data.toList
    · have hs2 : (V.toList == V2.toList) = true := str_eq ⟨fun _ => h2, fun _ => rfl⟩
      have cE := eqf_any A A2 n c n2 c2 ps qs _ (hP.gr hg1) (hQ.gr hg1) hn hv q (by rw [hq]; exact ⟨fun h => h.2.2, fun h => ⟨h1, h2, h⟩⟩)
      clear h1 h2 hq hP hQ
      go_enter Tryd.func21, Tryd.ntmps21
      go_wp2_with (go_at_call 40; refine cE.mono ?_; rintro e w1 ⟨rfl, hg2⟩)
      go_ret
      exact ⟨rfl, hg1.trans hg2⟩
    · have hs2 : (V.toList == V2.toList) = false := str_eq ⟨fun h => (by cases h), fun h => absurd h h2⟩
      have HE : Hid (q = false) := Lib.hid (by
        cases hc : q
        · rfl
        · exact absurd (hq.1 hc).2.1 h2)
      clear h1 h2 hq
      go_enter Tryd.func21, Tryd.ntmps21
      go_wp2
      go_ret
      exact ⟨ret_bool HE.out.symm, hg1⟩
  · have hs1 : (N.toList == N2.toList) = false := str_eq ⟨fun h => (by cases h), fun h => absurd h h1⟩
    have HE : Hid (q = false) := Lib.hid (by
      cases hc : q
      · rfl
      · exact absurd (hq.1 hc).1 h1)
    clear h1 hq
    go_enter Tryd.func21, Tryd.ntmps21
    go_wp2
    go_ret
    exact ⟨ret_bool HE.out.symm, hg1⟩
end Go.Proofs.YtbfngdpdgmgfpaaDoor
namespace Go.Proofs.YtbfngdpdgmgfpaaDoor
open Go.RowKit

theorem gr_cell {w w' : World} (h : Gr w w') {p : Addr} {v : Value} (hc : w.cell? p = some v) : w'.cell? p = some v := (h.below.cell (World.block_lt_of_cell? _ _ hc)).trans hc
theorem at_lit {l : List Oper} {i : Nat} {o : Oper} (h : l[i]? = some o) : l.toArray[i]? = some o := by simpa using h
section
variable {ops : Array Oper} {Q : Exit → Act → World → Prop} {S : World → Prop} {k : Nat}
def Wk (ops : Array Oper) (Q : Exit → Act → World → Prop) (S : World → Prop) (k : Nat) : Nat → Array Bool → Act → World → Prop
  | 0, listed, a, w => Region.ready .any ops listed = [] ∧ Q .normal a w
  | m + 1, listed, a, w => (Region.ready .any ops listed = [] → Q .normal a w) ∧
      ∀ i ∈ Region.ready .any ops listed, wpOp Tryd.prog ops Q i (fun a' w' => (i ≠ k → S w') ∧ Wk ops Q S k m (listed.setIfInBounds i true) a' w') a w
theorem Wk.any : ∀ (m : Nat) (listed : Array Bool) (a : Act) (w : World), Wk ops Q S k m listed a w → wpAny Tryd.prog .any ops Q m listed a w
  | 0, _, _, _, h => h
  | m + 1, _, _, _, h => ⟨h.1, fun i hi => wpOp_mono (fun a' w' g => Wk.any m _ a' w' g.2) (h.2 i hi)⟩
theorem ready_unlisted {i : Nat} {listed : Array Bool} (h : i ∈ Region.ready .any ops listed) : listed.getD i false = false := by
  have h0 := (mem_ready.1 h).1
  rcases Nat.lt_or_ge i listed.size with h1 | h1
  · simp [h1] at h0 ⊢; exact h0
  · simp [Array.getElem?_eq_none h1] at h0
/- an operation that yields one value wherever S holds may be taken first; the last operation waits for it -/
theorem Wk.first {i : Nat} {oi ok : Oper} {v : Value} (hi : ops[i]? = some oi) (hk : ops[k]? = some ok) (hw : ok.after.any (fun e => Region.binds .any e && e.on == i) = true) (hs : Region.noSelect ops = true)
    (hQ : ∀ c a w, Q (.panic c) (a.put oi.dst v) w → Q (.panic c) a w) : ∀ (m : Nat) (listed : Array Bool) (a : Act) (w : World),
    (∀ j oj, ops[j]? = some oj → j ≠ i → listed.getD j true = false → (∀ e ∈ oj.after, Region.binds .any e = true → e.on ≠ i) → oi.apart ops oj = true) → i ∈ Region.ready .any ops listed → YieldsIf Tryd.prog ops S oi v a → S w →
    Wk ops Q S k m (listed.setIfInBounds i true) (a.put oi.dst v) w → Wk ops Q S k (m + 1) listed a w := by
  have hsel := Region.noSelect_spec hs
  intro m
  induction m with
  | zero =>
    intro listed a w _ hr hy hS H
    refine ⟨fun e => absurd (e ▸ hr) (by simp), fun j hj => ?_⟩
    by_cases e : j = i
    · subst e; exact hy.wpOp hi hS ⟨fun _ => hS, H⟩
    · have hj2 := ready_mono hj e
      rw [H.1] at hj2; cases hj2
  | succ m ih =>
    intro listed a w hf hr hy hS H
    refine ⟨fun e => absurd (e ▸ hr) (by simp), fun j hj => ?_⟩
    by_cases e : j = i
    · subst e; exact hy.wpOp hi hS ⟨fun _ => hS, H⟩
    · obtain ⟨hun, oj, hoj, hall⟩ := mem_ready.1 hj
      have hno : ∀ x ∈ oj.after, Region.binds .any x = true → x.on ≠ i := fun x hx hb ex => by
        have h1 := hall x hx hb
        rw [ex, ready_unlisted hr] at h1; cases h1
      have hjk : j ≠ k := fun ejk => by
        subst ejk
        obtain rfl : oj = ok := Option.some.inj (hoj.symm.trans hk)
        obtain ⟨x, hx, hb⟩ := Array.any_eq_true'.1 hw
        simp only [Bool.and_eq_true, beq_iff_eq] at hb
        exact hno x hx hb.1 hb.2
      have h2 := wpOp_putIf hoj (hf j oj hoj e hun hno) (fun cs b => hsel i oi cs b hi) (fun cs b => hsel j oj cs b hoj) hQ hy (H.2 j (ready_mono hj e))
      refine wpOp_mono (fun a' w' g => ⟨fun _ => g.2.1 hjk, ih _ a' w' (fun q oq hq hqi hqu hqn => ?_) (ready_mono hr (Ne.symm e)) g.1 (g.2.1 hjk) ?_⟩) h2
      · refine hf q oq hq hqi ?_ hqn
        by_cases ejq : j = q
        · rw [← ejq]; exact hun
        · rw [getD_set_ne true ejq] at hqu; exact hqu
      · rw [Array.setIfInBounds_comm _ _ e]; exact g.2.2
theorem Wk.take {i : Nat} {oi ok : Oper} {v : Value} {m : Nat} {listed : Array Bool} {a : Act} {w : World} (hi : ops[i]? = some oi) (hk : ops[k]? = some ok) (hw : ok.after.any (fun e => Region.binds .any e && e.on == i) = true)
    (hs : Region.noSelect ops = true) (hf : Region.free .any ops listed i = true) (hr : (Region.ready .any ops listed).contains i = true) (hg : oi.guard = none)
    (hQ : ∀ c a w, Q (.panic c) (a.put oi.dst v) w → Q (.panic c) a w) (hy : ∀ w, S w → (execOp a.eval oi).run Tryd.prog w = .ok (.value v) w) (hS : S w)
    (h : Wk ops Q S k m (listed.setIfInBounds i true) (a.put oi.dst v) w) : Wk ops Q S k (m + 1) listed a w :=
  Wk.first hi hk hw hs hQ m listed a w (Region.free_spec hi hf) (by simpa using hr) (.inl ⟨by simp [Region.wanted, hg], hy⟩) hS h
/- the one operation that may come up -/
theorem Wk.one {i : Nat} {oi : Oper} {m : Nat} {listed : Array Bool} {a : Act} {w : World} (hi : ops[i]? = some oi) (hr : Region.ready .any ops listed = [i])
    (h : ∀ K : Act → World → Prop, (∀ a' w', (i ≠ k → S w') → Wk ops Q S k m (listed.setIfInBounds i true) a' w' → K a' w') → if Region.wanted oi (yielded ops a.tmps) = true then Oper.wp Tryd.prog oi a w K Q else K (a.put oi.dst undef) w) : Wk ops Q S k (m + 1) listed a w := by
  refine ⟨fun e => (by rw [hr] at e; cases e), fun j hj => ?_⟩
  rw [hr] at hj
  obtain rfl := List.mem_singleton.1 hj
  exact wpOp_step hi (fun K hK => h K (fun a' w' h1 h2 => hK a' w' ⟨h1, h2⟩))
theorem Wk.done {m : Nat} {listed : Array Bool} {a : Act} {w : World} (hr : Region.ready .any ops listed = []) (h : Q .normal a w) : Wk ops Q S k m listed a w := by
  cases m with
  | zero => exact ⟨hr, h⟩
  | succ m => exact ⟨fun _ => h, by rw [hr]; simp⟩
theorem wp_region_last {id : Nat} {a : Act} {w : World} (k m : Nat) (S : World → Prop) (hm : Tryd.prog.follows .mixedOrders = true) (hz : ops.size = m) (h : Wk ops Q S k m (Array.replicate m false) a w.drew) : (Code.region id ops true).wp Tryd.prog Q a w := by
  subst hz
  exact wp_region_any hm (Wk.any _ _ _ _ h)
end
end Go.Proofs.YtbfngdpdgmgfpaaDoor
namespace Go.Proofs.YtbfngdpdgmgfpaaDoor
open Go.RowKit

theorem Strs.src {W : World} {Av : Option Addr} {nv cv : Nat} {vs : List (List UInt8)} (hS : Strs W W.heap.size Av nv vs) : Src Tryd.prog 1 60 (.slice Av nv cv) nv (sc vs) W := by
  have hl : vs.length = nv := hS.1
  have h1 : ∀ u ∈ sc vs, u.oneCell' = true := fun u hu => by
    obtain ⟨_, _, rfl⟩ := List.mem_map.1 hu
    rfl
  have hsl : (sc vs).length = nv * 1 := by simp [sc, hl]
  rcases Nat.eq_zero_or_pos nv with h0 | h0
  · subst h0
    have hv : vs = [] := List.eq_nil_of_length_eq_zero hl
    subst hv
    cases Av with
    | none => exact Src.ofNil _ Tryd.underlying60 cv
    | some a => exact Src.ofSlice _ Tryd.underlying60 a 0 cv [] rfl (fun j u hu => by simp at hu) (by simp)
  · obtain ⟨ad, rfl, _, hc⟩ := hS.2 h0
    refine Src.ofSlice _ Tryd.underlying60 ad nv cv (sc vs) hsl (fun j u hu => ?_) h1
    unfold sc at hu
    rw [List.getElem?_map] at hu
    cases hj : vs[j]? with
    | none => rw [hj] at hu; cases hu
    | some t =>
      rw [hj] at hu
      injection hu with hu
      subst hu
      exact hc j t hj
theorem run_copy (W : World) (ty : TypeId) (g : Nat) (Av : Option Addr) (nv cv : Nat) (vs : List (List UInt8)) (hS : Strs W W.heap.size Av nv vs) (hb : nv * 16 ≤ 140737488355328) :
    ∃ A2 c2 w', (Builtin.append_ #[60, 60] ty #[.slice (some ⟨g, 0, none⟩) 0 0, .slice Av nv cv]).run Tryd.prog W = .ok (.slice A2 nv c2) w' ∧ Strs w' w'.heap.size A2 nv vs ∧ Gr W w' ∧ (0 < nv → ∀ ad, A2 = some ad → W.heap.size ≤ ad.block) := by
  obtain ⟨i0, hi, hz0, hz1, hz2⟩ := info_parts info_str
  have hs : Src Tryd.prog i0.size 60 (.slice Av nv cv) nv (sc vs) W := by rw [hz1]; exact hS.src
  have hl : vs.length = nv := hS.1
  rcases Nat.eq_zero_or_pos nv with h0 | h0
  · subst h0
    have hv : vs = [] := List.eq_nil_of_length_eq_zero hl
    subst hv
    have hrun := run_append_room_src (P := Tryd.prog) W 60 60 ty 9 i0 Tryd.underlying60 hi g 0 0 0 (.slice Av 0 cv) 0 (sc []) hs (Nat.le_refl _) (fun j hj => absurd hj (by simp [sc])) (fun j hj => absurd hj (by simp [sc]))
    exact ⟨_, _, _, hrun, Strs.nil _ _ _, Gr.refl _, fun h => absurd h (by omega)⟩
  · have hold : (Builtin.firstCells i0.size 0 (.slice (some ⟨g, 0, none⟩) 0 0)).run Tryd.prog W.drew = .ok ([] : List Value).toArray W.drew :=
      run_firstCells_some (P := Tryd.prog) W.drew i0.size 0 ⟨g, 0, none⟩ 0 0 [] (by simp) (fun j v hv => by simp at hv)
    have hrun := run_append_grow_src (P := Tryd.prog) W 60 60 ty 9 i0 (.string ⟨#[]⟩) Tryd.underlying60 hi hz0 (some ⟨g, 0, none⟩) 0 0 [] hold (.slice Av nv cv) nv (sc vs) hs (by omega) (by omega)
      (by rw [hz2]; exact growslice_fits (by omega) (by omega))
    rw [Nat.zero_add] at hrun
    have hcell := fun j => World.cell?_alloc_new W.drew (([] ++ sc vs).toArray ++ Builtin.zeroCells (Value.string ⟨#[]⟩).cells (grownCap W nv 0 9 - nv)) 9 j
    refine ⟨_, _, _, hrun, ⟨hl, fun _ => ⟨⟨W.heap.size, 0, none⟩, rfl, ?_, fun j u hu => ?_⟩⟩, (Gr.refl W).drew.allocO _, fun _ ad ha => ?_⟩
    · simp
    · rw [add_zero_]
      have hj : j < vs.length := (List.getElem?_eq_some_iff.1 hu).1
      have hc := hcell j
      rw [show (W.drew.heap.size) = W.heap.size from rfl] at hc
      rw [hc, Array.getElem?_append_left (by simp [sc]; exact hj), List.getElem?_toArray, List.nil_append]
      unfold sc
      rw [List.getElem?_map, hu]; rfl
    · injection ha with ha
      subst ha
      exact Nat.le_refl _
theorem st_copy {ops : Array Oper} {o : Oper} {a : Act} {K : Act → World → Prop} {Q : Exit → Act → World → Prop} {E : Prop} (W : World) (hgd : o.guard = none) (sl x : Operand)
    (ho : o.op = .call { callee := .builtin .append, args := #[sl, x], argTypes := #[60, 60] })
    (g : Nat) (hs : a.eval sl = .slice (some ⟨g, 0, none⟩) 0 0) (Av : Option Addr) (nv cv : Nat) (vs : List (List UInt8)) (hx : a.eval x = .slice Av nv cv) (hS : Strs W W.heap.size Av nv vs) (hb : nv * 16 ≤ 140737488355328)
    (h : ∀ A2 c2 w', Strs w' w'.heap.size A2 nv vs → Gr W w' → (0 < nv → ∀ ad, A2 = some ad → W.heap.size ≤ ad.block) → K (a.put o.dst (.slice A2 nv c2)) w') :
    if Region.wanted o (yielded ops a.tmps) = true then Oper.wp Tryd.prog o a W K Q else E := by
  have hw : Region.wanted o (yielded ops a.tmps) = true := by simp [Region.wanted, hgd]
  rw [if_pos hw]
  obtain ⟨A2, c2, w', hrun, h2, h3, h4⟩ := run_copy W o.type g Av nv cv vs hS hb
  unfold Oper.wp execOp
  simp only [ho, resolve, invoke, builtin, Sem.run_bind, Sem.run_pure, Result.andThen_ok, List.map_toArray, List.map_cons, List.map_nil, hs, hx, hrun]
  exact h A2 c2 w' h2 h3 h4
end Go.Proofs.YtbfngdpdgmgfpaaDoor
namespace Go.Proofs.YtbfngdpdgmgfpaaDoor
open Go.RowKit

theorem Bx3.set1 {w : World} {b : Nat} {x y z : Value} (h : Bx3 w b x y z) (u : Value) : Bx3 (w.setCell ⟨b, 1, none⟩ u) b x u z :=
  ⟨by rw [World.cell?_setCell_other (h := by simp)]; exact h.c0, World.cell?_setCell_same _ _ _ h.c1, by rw [World.cell?_setCell_other (h := by simp)]; exact h.c2,
    by rw [World.frozen?_setCell]; exact h.f0, by rw [World.frozen?_setCell]; exact h.f1, by rw [World.frozen?_setCell]; exact h.f2⟩
theorem PRow.cap' {w : World} {B : Nat} {P : Nat → Prop} {e : TypeId} {A : Option Addr} {n c : Nat} {ps : List Ln.Par} (h : PRow w B P e A n c ps) : n ≤ c := by
  obtain ⟨xs, h1, _⟩ := h
  rcases h1.2 with ⟨hn, rfl⟩ | ⟨g, cap, cur, hv, _, _, hc, _⟩
  · exact Nat.zero_le _
  · injection hv with _ _ h3; omega
set_option maxHeartbeats 4000000 in
set_option maxRecDepth 100000 in
theorem ours_fr (N V : ByteArray) (A : Option Addr) (n c : Nat) (ps : List Ln.Par) (w : World) (B : Nat) (hB : B ≤ w.heap.size) (hP : Pars w B A n ps) (hn : n ≤ 100000) :
    Calls Tryd.prog 23 #[.agg #[.string N, .slice A n c, .string V]] w fun e w' => ∃ A2 c2, e = .returned (.agg #[.string N, .slice A2 n c2, .string V]) ∧ Fp (fun x => x < B ∨ w.heap.size ≤ x) w' (fun v => Pars v v.heap.size A2 n ps) ∧ n ≤ c2 ∧ Gr w w' := by
  have HL := Lib.hid hP.1
  have hg0 : Gr w (((w.alloc (.cells #[.string N, .slice A n c, .string V] 48)).alloc (.cells #[.string ⟨#[]⟩, .slice none 0 0, .string ⟨#[]⟩] 53)).alloc (.cells #[.string N, .slice none 0 0, .string V] 53)) := (((Gr.refl w).allocO _).allocO _).allocO _
  have hb1 := ((Bx3.new w (.string N) (.slice A n c) (.string V) 48).gr ((Gr.refl _).allocO (.cells #[.string ⟨#[]⟩, .slice none 0 0, .string ⟨#[]⟩] 53))).gr ((Gr.refl _).allocO (.cells #[.string N, .slice none 0 0, .string V] 53))
  have hb2 := (Bx3.new (w.alloc (.cells #[.string N, .slice A n c, .string V] 48)) (.string ⟨#[]⟩) (.slice none 0 0) (.string ⟨#[]⟩) 53).gr ((Gr.refl _).allocO (.cells #[.string N, .slice none 0 0, .string V] 53))
  have hb3 := Bx3.new ((w.alloc (.cells #[.string N, .slice A n c, .string V] 48)).alloc (.cells #[.string ⟨#[]⟩, .slice none 0 0, .string ⟨#[]⟩] 53)) (.string N) (.slice none 0 0) (.string V) 53
  have z1 : (w.alloc (.cells #[.string N, .slice A n c, .string V] 48)).heap.size = w.heap.size + 1 := by simp
  have z2 : ((w.alloc (.cells #[.string N, .slice A n c, .string V] 48)).alloc (.cells #[.string ⟨#[]⟩, .slice none 0 0, .string ⟨#[]⟩] 53)).heap.size = w.heap.size + 2 := by simp
  have z3 : (((w.alloc (.cells #[.string N, .slice A n c, .string V] 48)).alloc (.cells #[.string ⟨#[]⟩, .slice none 0 0, .string ⟨#[]⟩] 53)).alloc (.cells #[.string N, .slice none 0 0, .string V] 53)).heap.size = w.heap.size + 3 := by simp
  rw [z1] at hb2
  rw [z2] at hb3
  clear z1 z2
  go_enter Tryd.func23, Tryd.ntmps23
  go_wp2
  generalize (((w.alloc (.cells #[.string N, .slice A n c, .string V] 48)).alloc (.cells #[.string ⟨#[]⟩, .slice none 0 0, .string ⟨#[]⟩] 53)).alloc (.cells #[.string N, .slice none 0 0, .string V] 53)) = w0 at *
  go_loopg [13] n (fun g v13 wx => ∃ A2 c2, ∃ k : Nat, v13 = .int .i64 (k : Int) ∧ k + g = n ∧ Mv (w.heap.size + 2) w0 wx ∧ Bx3 wx (w.heap.size + 2) (.string N) (.slice A2 k c2) (.string V) ∧ PRow wx (w.heap.size + 3) (fun x => x < B) 81 A2 k c2 (ps.take k))
  case atStart => exact ⟨_, _, 0, rfl, by omega, Mv.refl _ _, hb3, by simpa using PRow.nil _ _ _ _⟩
  case round =>
    obtain ⟨A2, c2, k, rfl, hkg, hmv, hb3x, hrow⟩ := hrel
    have HG := Lib.hid hkg
    clear hkg
    have hszx : w.heap.size + 3 ≤ wr.heap.size := by have := hmv.lt; omega
    by_cases hk : k < n
    · obtain ⟨ad, hk', rfl, hblB, hc0', A', n', c', hc1', hS⟩ := hP.at_ hk
      have hbl : ad.block < w.heap.size := by omega
      have hgb : Below w.heap.size w wr := hg0.below.trans (hmv.low (by omega) (by omega))
      have hc0 := (hgb.cell (p := ad.add (k * 2)) (by rw [add_block]; exact hbl)).trans hc0'
      have hc1 := (hgb.cell (p := ⟨(ad.add (k * 2)).block, (ad.add (k * 2)).off + 1, none⟩) (by show (ad.add (k * 2)).block < _; rw [add_block]; exact hbl)).trans hc1'
      have hb1x := hb1.mv hmv (by omega)
      have hb2x := hb2.mv hmv (by omega)
      have hSx : Strs wr wr.heap.size A' n' ps[k].2 := (hS.keep (hgb.mono hB)).more (by omega)
      have hown := hrow.own
      have hv : 0 < n' → ∀ a, A' = some a → a.block < B ∧ (Value.slice A2 k c2).ownBlock ≠ some a.block := fun h0 a ha => by
        obtain ⟨a', ha', hb', _⟩ := hS.2 h0
        rw [ha] at ha'
        injection ha' with ha'
        subst ha'
        exact ⟨hb', fun e => by have := (hown _ e).1; omega⟩
      have d31 := hb3x.c1
      have d11 := hb1x.c1
      have f31 := hb3x.f1
      have HTK := Lib.hid (List.take_succ_eq_append_getElem hk')
      have hkn : (k : Int) < (n : Int) := by omega
      clear hc0' hc1'
      go_wp2_with fail
      have hS : (fun w' : World => w'.cell? ⟨w.heap.size + 2, 1, none⟩ = some (.slice A2 k c2) ∧ w'.cell? ⟨w.heap.size, 1, none⟩ = some (.slice (some ad) n c) ∧ w'.cell? (ad.add (k * 2)) = some (.string ⟨ps[k].1.toArray⟩) ∧ w'.cell? ⟨(ad.add (k * 2)).block, (ad.add (k * 2)).off + 1, none⟩ = some (.slice A' n' c')) wr.drew := ⟨d31, d11, hc0, hc1⟩
      refine wp_region_last 10 11 (fun w' : World => w'.cell? ⟨w.heap.size + 2, 1, none⟩ = some (.slice A2 k c2) ∧ w'.cell? ⟨w.heap.size, 1, none⟩ = some (.slice (some ad) n c) ∧ w'.cell? (ad.add (k * 2)) = some (.string ⟨ps[k].1.toArray⟩) ∧ w'.cell? ⟨(ad.add (k * 2)).block, (ad.add (k * 2)).off + 1, none⟩ = some (.slice A' n' c')) (by kernel_rfl) rfl ?_
      refine Wk.take (i := 0) (v := ?_) (at_lit rfl) (at_lit rfl) (by kernel_rfl) (by kernel_rfl) (by kernel_rfl) (by kernel_rfl) rfl (fun _ _ _ h => h) ?_ hS ?_
      rotate_left 1
      · intro w' hSw
        obtain ⟨s0, s1, s2, s3⟩ := hSw
        go_simp
        first | done | rfl
      simp only [Act.put, List.setIfInBounds_toArray, List.set_cons_zero, List.set_cons_succ]
      refine Wk.take (i := 1) (v := ?_) (at_lit rfl) (at_lit rfl) (by kernel_rfl) (by kernel_rfl) (by kernel_rfl) (by kernel_rfl) rfl (fun _ _ _ h => h) ?_ hS ?_
      rotate_left 1
      · intro w' hSw
        obtain ⟨s0, s1, s2, s3⟩ := hSw
        go_simp
        first | done | rfl
      simp only [Act.put, List.setIfInBounds_toArray, List.set_cons_zero, List.set_cons_succ]
      refine Wk.take (i := 2) (v := ?_) (at_lit rfl) (at_lit rfl) (by kernel_rfl) (by kernel_rfl) (by kernel_rfl) (by kernel_rfl) rfl (fun _ _ _ h => h) ?_ hS ?_
      rotate_left 1
      · intro w' hSw
        obtain ⟨s0, s1, s2, s3⟩ := hSw
        go_simp
        first | done | rfl
      simp only [Act.put, List.setIfInBounds_toArray, List.set_cons_zero, List.set_cons_succ]
      refine Wk.take (i := 3) (v := ?_) (at_lit rfl) (at_lit rfl) (by kernel_rfl) (by kernel_rfl) (by kernel_rfl) (by kernel_rfl) rfl (fun _ _ _ h => h) ?_ hS ?_
      rotate_left 1
      · intro w' hSw
        obtain ⟨s0, s1, s2, s3⟩ := hSw
        go_simp
        first | done | rfl
      simp only [Act.put, List.setIfInBounds_toArray, List.set_cons_zero, List.set_cons_succ]
      refine Wk.take (i := 4) (v := ?_) (at_lit rfl) (at_lit rfl) (by kernel_rfl) (by kernel_rfl) (by kernel_rfl) (by kernel_rfl) rfl (fun _ _ _ h => h) ?_ hS ?_
      rotate_left 1
      · intro w' hSw
        obtain ⟨s0, s1, s2, s3⟩ := hSw
        go_simp
        first | done | rfl
      simp only [Act.put, List.setIfInBounds_toArray, List.set_cons_zero, List.set_cons_succ]
      refine Wk.take (i := 5) (v := ?_) (at_lit rfl) (at_lit rfl) (by kernel_rfl) (by kernel_rfl) (by kernel_rfl) (by kernel_rfl) rfl (fun _ _ _ h => h) ?_ hS ?_
      rotate_left 1
      · intro w' hSw
        obtain ⟨s0, s1, s2, s3⟩ := hSw
        go_simp
        first | done | rfl
      simp only [Act.put, List.setIfInBounds_toArray, List.set_cons_zero, List.set_cons_succ]
      refine Wk.take (i := 6) (v := ?_) (at_lit rfl) (at_lit rfl) (by kernel_rfl) (by kernel_rfl) (by kernel_rfl) (by kernel_rfl) rfl (fun _ _ _ h => h) ?_ hS ?_
      rotate_left 1
      · intro w' hSw
        obtain ⟨s0, s1, s2, s3⟩ := hSw
        go_simp
        first | done | rfl
      simp only [Act.put, List.setIfInBounds_toArray, List.set_cons_zero, List.set_cons_succ]
      refine Wk.one (i := 7) (at_lit rfl) (by kernel_rfl) (fun K hK => ?_)
      go_simp
      have hgA : Gr wr (wr.alloc (.cells #[.string ⟨ps[k].1.toArray⟩, .slice A' n' c'] 81)).drew := ((Gr.refl wr).allocO _).drew
      refine hK _ _ (fun _ => ⟨gr_cell hgA d31, gr_cell hgA d11, gr_cell hgA hc0, gr_cell hgA hc1⟩) ?_
      clear hK K
      refine Wk.one (i := 8) (at_lit rfl) (by kernel_rfl) (fun K hK => ?_)
      refine st_par wr (by rfl) (.tmp 17) (.tmp 23) 51 81 Tryd.underlying51 info_parof (by rfl) (w.heap.size + 3) (fun x => x < B) A2 k c2 (ps.take k) (by rfl) hrow ps[k] A' n' c' hSx hv (by rfl) (by omega) hszx ?_
      intro A3 c3 w3 hrow3 hb3w
      have e31 := (hb3w.cell (p := ⟨w.heap.size + 2, 1, none⟩) (by show w.heap.size + 2 < _; omega)).trans d31
      have g31 := (hb3w.frozen (p := ⟨w.heap.size + 2, 1, none⟩) (by show w.heap.size + 2 < _; omega)).trans f31
      have hS : (fun w' : World => w'.cell? ⟨w.heap.size + 2, 1, none⟩ = some (.slice A2 k c2) ∧ w'.cell? ⟨w.heap.size, 1, none⟩ = some (.slice (some ad) n c) ∧ w'.cell? (ad.add (k * 2)) = some (.string ⟨ps[k].1.toArray⟩) ∧ w'.cell? ⟨(ad.add (k * 2)).block, (ad.add (k * 2)).off + 1, none⟩ = some (.slice A' n' c')) w3 :=
        ⟨e31, (hb3w.cell (by show w.heap.size < _; omega)).trans d11, (hb3w.cell (by rw [add_block]; omega)).trans hc0, (hb3w.cell (by show (ad.add (k * 2)).block < _; rw [add_block]; omega)).trans hc1⟩
      refine hK _ _ (fun _ => hS) ?_
      clear hK K
      simp only [Act.put, List.setIfInBounds_toArray, List.set_cons_zero, List.set_cons_succ]
      refine Wk.take (i := 9) (v := ?_) (at_lit rfl) (at_lit rfl) (by kernel_rfl) (by kernel_rfl) (by kernel_rfl) (by kernel_rfl) rfl (fun _ _ _ h => h) ?_ hS ?_
      rotate_left 1
      · intro w' hSw
        obtain ⟨s0, s1, s2, s3⟩ := hSw
        go_simp
        first | done | rfl
      simp only [Act.put, List.setIfInBounds_toArray, List.set_cons_zero, List.set_cons_succ]
      refine Wk.one (i := 10) (at_lit rfl) (by kernel_rfl) (fun K hK => ?_)
      go_simp
      refine hK _ _ (fun h => absurd rfl h) ?_
      clear hK K
      refine Wk.done (by kernel_rfl) ?_
      have hb3n : Bx3 (w3.setCell ⟨w.heap.size + 2, 1, none⟩ (.slice A3 (k + 1) c3)) (w.heap.size + 2) (.string N) (.slice A3 (k + 1) c3) (.string V) := (hb3x.below hb3w (by omega)).set1 _
      have hmv3 : Mv (w.heap.size + 2) w0 (w3.setCell ⟨w.heap.size + 2, 1, none⟩ (.slice A3 (k + 1) c3)) := (hmv.below (by rw [z3]; exact hb3w)).trans (Mv.set _ _ _ _)
      have hrow4 := hrow3.kept (Mv.set (w.heap.size + 2) w3 1 (.slice A3 (k + 1) c3)) (fun q hq => by injection hq with hq; subst hq; exact ⟨by omega, fun x hx => by have hx' : x < B := hx; omega⟩)
      go_wp2
      go_roundg (n - (k + 1))
      case measure => have := HG.out; omega
      case rel => exact ⟨A3, c3, k + 1, by go_num, by omega, hmv3, hb3n, by rw [HTK.out]; exact hrow4⟩
    · obtain rfl : k = n := by have := HG.out; omega
      rw [List.take_of_length_le (by rw [HL.out]; exact Nat.le_refl _)] at hrow
      have hb2x := hb2.mv hmv (by omega)
      have HX2 := Lib.hid hb2x
      have d0 := hb3x.c0
      have d1 := hb3x.c1
      have d2 := hb3x.c2
      obtain ⟨x0, x1, x2, f0, f1, f2⟩ := hb2x
      go_wp2
      obtain ⟨y0, y1, y2⟩ := HX2.out.set3 (.string N) (.slice A2 k c2) (.string V)
      have hrow2 := hrow.kept (mv_set3 wr (w.heap.size + 1) (.string N) (.slice A2 k c2) (.string V)) (fun q hq => by injection hq with hq; subst hq; exact ⟨by omega, fun x hx => by have hx' : x < B := hx; omega⟩)
      have hbw := (hg0.below.trans (hmv.low (B := w.heap.size) (by omega) (by omega))).trans (below_set3 (w := wr) (b := w.heap.size + 1) (by omega) (.string N) (.slice A2 k c2) (.string V))
      generalize World.setCell (World.setCell (World.setCell _ _ _) _ _) _ _ = W at *
      exact bodyPost_ret (v := .agg #[.string N, .slice A2 k c2, .string V]) (by simp [results, Tryd.results23, go_sem, y0, y1, y2]) rfl ⟨A2, c2, rfl, hrow2.fp (fun x (hx : x < B) => .inl hx) (fun x hx => .inr (by omega)), hrow2.cap', ⟨hbw⟩⟩
theorem ours_any (N V : ByteArray) (A : Option Addr) (n c : Nat) (ps : List Ln.Par) (w : World) (hP : Pars w w.heap.size A n ps) (hn : n ≤ 100000) :
    Calls Tryd.prog 23 #[.agg #[.string N, .slice A n c, .string V]] w fun e w' => ∃ A2 c2, e = .returned (.agg #[.string N, .slice A2 n c2, .string V]) ∧ Pars w' w'.heap.size A2 n ps ∧ Gr w w' :=
  (ours_fr N V A n c ps w w.heap.size (Nat.le_refl _) hP hn).mono fun _ _ ⟨A2, c2, h1, h2, _, h4⟩ => ⟨A2, c2, h1, h2.now, h4⟩
end Go.Proofs.YtbfngdpdgmgfpaaDoor
namespace Go.Proofs.YtbfngdpdgmgfpaaDoor
open Go.RowKit

theorem PRow.capt {w : World} {B : Nat} {P : Nat → Prop} {e : TypeId} {A : Option Addr} {n c : Nat} {ps : List Ln.Par} (h : PRow w B P e A n c ps) : n ≤ c := by
  obtain ⟨xs, h1, _⟩ := h
  rcases h1.2 with ⟨hn, rfl⟩ | ⟨g, cap, cur, hv, _, _, hc, _⟩
  · exact Nat.zero_le _
  · injection hv with _ _ h3; omega
set_option maxHeartbeats 4000000 in
set_option maxRecDepth 100000 in
theorem theirs_fr (N V : ByteArray) (A : Option Addr) (n c : Nat) (ps : List Ln.Par) (w : World) (hP : Pars w w.heap.size A n ps) (hn : n * 40 ≤ 140737488355328) (hvn : ∀ p ∈ ps, p.2.length * 16 ≤ 140737488355328) :
    Calls Tryd.prog 25 #[.agg #[.string N, .slice A n c, .string V]] w fun e w' => ∃ A2 c2, e = .returned (.agg #[.string N, .slice A2 n c2, .string V]) ∧ Fp (fun x => w.heap.size ≤ x) w' (fun v => Pars v v.heap.size A2 n ps) ∧ n ≤ c2 ∧ Gr w w' := by
  have HL := Lib.hid hP.1
  have hg0 : Gr w (((w.alloc (.cells #[.string N, .slice A n c, .string V] 53)).alloc (.cells #[.string ⟨#[]⟩, .slice none 0 0, .string ⟨#[]⟩] 48)).alloc (.cells #[.string N, .slice none 0 0, .string V] 48)) := (((Gr.refl w).allocO _).allocO _).allocO _
  have hb1 := ((Bx3.new w (.string N) (.slice A n c) (.string V) 53).gr ((Gr.refl _).allocO (.cells #[.string ⟨#[]⟩, .slice none 0 0, .string ⟨#[]⟩] 48))).gr ((Gr.refl _).allocO (.cells #[.string N, .slice none 0 0, .string V] 48))
  have hb2 := (Bx3.new (w.alloc (.cells #[.string N, .slice A n c, .string V] 53)) (.string ⟨#[]⟩) (.slice none 0 0) (.string ⟨#[]⟩) 48).gr ((Gr.refl _).allocO (.cells #[.string N, .slice none 0 0, .string V] 48))
  have hb3 := Bx3.new ((w.alloc (.cells #[.string N, .slice A n c, .string V] 53)).alloc (.cells #[.string ⟨#[]⟩, .slice none 0 0, .string ⟨#[]⟩] 48)) (.string N) (.slice none 0 0) (.string V) 48
  have z1 : (w.alloc (.cells #[.string N, .slice A n c, .string V] 53)).heap.size = w.heap.size + 1 := by simp
  have z2 : ((w.alloc (.cells #[.string N, .slice A n c, .string V] 53)).alloc (.cells #[.string ⟨#[]⟩, .slice none 0 0, .string ⟨#[]⟩] 48)).heap.size = w.heap.size + 2 := by simp
  have z3 : (((w.alloc (.cells #[.string N, .slice A n c, .string V] 53)).alloc (.cells #[.string ⟨#[]⟩, .slice none 0 0, .string ⟨#[]⟩] 48)).alloc (.cells #[.string N, .slice none 0 0, .string V] 48)).heap.size = w.heap.size + 3 := by simp
  rw [z1] at hb2
  rw [z2] at hb3
  clear z1 z2
  go_enter Tryd.func25, Tryd.ntmps25
  go_wp2
  generalize (((w.alloc (.cells #[.string N, .slice A n c, .string V] 53)).alloc (.cells #[.string ⟨#[]⟩, .slice none 0 0, .string ⟨#[]⟩] 48)).alloc (.cells #[.string N, .slice none 0 0, .string V] 48)) = w0 at *
  go_loopg [13] n (fun g v13 wx => ∃ A2 c2, ∃ k : Nat, v13 = .int .i64 (k : Int) ∧ k + g = n ∧ Mv (w.heap.size + 2) w0 wx ∧ Bx3 wx (w.heap.size + 2) (.string N) (.slice A2 k c2) (.string V) ∧ PRow wx (w.heap.size + 3) (fun x => w.heap.size + 3 ≤ x) 79 A2 k c2 (ps.take k))
  case atStart => exact ⟨_, _, 0, rfl, by omega, Mv.refl _ _, hb3, by simpa using PRow.nil _ _ _ _⟩
  case round =>
    obtain ⟨A2, c2, k, rfl, hkg, hmv, hb3x, hrow⟩ := hrel
    have HG := Lib.hid hkg
    clear hkg
    have hszx : w.heap.size + 3 ≤ wr.heap.size := by have := hmv.lt; omega
    by_cases hk : k < n
    · obtain ⟨ad, hk', rfl, hbl, hc0', A', n', c', hc1', hS⟩ := hP.at_ hk
      have hgb : Below w.heap.size w wr := hg0.below.trans (hmv.low (by omega) (by omega))
      have hc0 := (hgb.cell (p := ad.add (k * 2)) (by rw [add_block]; exact hbl)).trans hc0'
      have hc1 := (hgb.cell (p := ⟨(ad.add (k * 2)).block, (ad.add (k * 2)).off + 1, none⟩) (by show (ad.add (k * 2)).block < _; rw [add_block]; exact hbl)).trans hc1'
      have hb1x := hb1.mv hmv (by omega)
      have hSx : Strs wr wr.heap.size A' n' ps[k].2 := (hS.keep hgb).more (by omega)
      have hn16 : n' * 16 ≤ 140737488355328 := by have h1 := hvn _ (List.getElem_mem hk'); rw [hS.1] at h1; exact h1
      have d31 := hb3x.c1
      have d11 := hb1x.c1
      have f31 := hb3x.f1
      have HTK := Lib.hid (List.take_succ_eq_append_getElem hk')
      have hkn : (k : Int) < (n : Int) := by omega
      clear hc0' hc1'
      go_wp2_with fail
      have hS : (fun w' : World => w'.cell? ⟨w.heap.size + 2, 1, none⟩ = some (.slice A2 k c2) ∧ w'.cell? ⟨w.heap.size, 1, none⟩ = some (.slice (some ad) n c) ∧ w'.cell? (ad.add (k * 2)) = some (.string ⟨ps[k].1.toArray⟩) ∧ w'.cell? ⟨(ad.add (k * 2)).block, (ad.add (k * 2)).off + 1, none⟩ = some (.slice A' n' c')) wr.drew := ⟨d31, d11, hc0, hc1⟩
      refine wp_region_last 20 21 (fun w' : World => w'.cell? ⟨w.heap.size + 2, 1, none⟩ = some (.slice A2 k c2) ∧ w'.cell? ⟨w.heap.size, 1, none⟩ = some (.slice (some ad) n c) ∧ w'.cell? (ad.add (k * 2)) = some (.string ⟨ps[k].1.toArray⟩) ∧ w'.cell? ⟨(ad.add (k * 2)).block, (ad.add (k * 2)).off + 1, none⟩ = some (.slice A' n' c')) (by kernel_rfl) rfl ?_
      refine Wk.take (i := 0) (v := ?_) (at_lit rfl) (at_lit rfl) (by kernel_rfl) (by kernel_rfl) (by kernel_rfl) (by kernel_rfl) rfl (fun _ _ _ h => h) ?_ hS ?_
      rotate_left 1
      · intro w' hSw
        obtain ⟨s0, s1, s2, s3⟩ := hSw
        go_simp
        first | done | rfl
      simp only [Act.put, List.setIfInBounds_toArray, List.set_cons_zero, List.set_cons_succ]
      refine Wk.take (i := 1) (v := ?_) (at_lit rfl) (at_lit rfl) (by kernel_rfl) (by kernel_rfl) (by kernel_rfl) (by kernel_rfl) rfl (fun _ _ _ h => h) ?_ hS ?_
      rotate_left 1
      · intro w' hSw
        obtain ⟨s0, s1, s2, s3⟩ := hSw
        go_simp
        first | done | rfl
      simp only [Act.put, List.setIfInBounds_toArray, List.set_cons_zero, List.set_cons_succ]
      refine Wk.take (i := 2) (v := ?_) (at_lit rfl) (at_lit rfl) (by kernel_rfl) (by kernel_rfl) (by kernel_rfl) (by kernel_rfl) rfl (fun _ _ _ h => h) ?_ hS ?_
      rotate_left 1
      · intro w' hSw
        obtain ⟨s0, s1, s2, s3⟩ := hSw
        go_simp
        first | done | rfl
      simp only [Act.put, List.setIfInBounds_toArray, List.set_cons_zero, List.set_cons_succ]
      refine Wk.take (i := 3) (v := ?_) (at_lit rfl) (at_lit rfl) (by kernel_rfl) (by kernel_rfl) (by kernel_rfl) (by kernel_rfl) rfl (fun _ _ _ h => h) ?_ hS ?_
      rotate_left 1
      · intro w' hSw
        obtain ⟨s0, s1, s2, s3⟩ := hSw
        go_simp
        first | done | rfl
      simp only [Act.put, List.setIfInBounds_toArray, List.set_cons_zero, List.set_cons_succ]
      refine Wk.take (i := 4) (v := ?_) (at_lit rfl) (at_lit rfl) (by kernel_rfl) (by kernel_rfl) (by kernel_rfl) (by kernel_rfl) rfl (fun _ _ _ h => h) ?_ hS ?_
      rotate_left 1
      · intro w' hSw
        obtain ⟨s0, s1, s2, s3⟩ := hSw
        go_simp
        first | done | rfl
      simp only [Act.put, List.setIfInBounds_toArray, List.set_cons_zero, List.set_cons_succ]
      refine Wk.take (i := 5) (v := ?_) (at_lit rfl) (at_lit rfl) (by kernel_rfl) (by kernel_rfl) (by kernel_rfl) (by kernel_rfl) rfl (fun _ _ _ h => h) ?_ hS ?_
      rotate_left 1
      · intro w' hSw
        obtain ⟨s0, s1, s2, s3⟩ := hSw
        go_simp
        first | done | rfl
      simp only [Act.put, List.setIfInBounds_toArray, List.set_cons_zero, List.set_cons_succ]
      refine Wk.take (i := 6) (v := ?_) (at_lit rfl) (at_lit rfl) (by kernel_rfl) (by kernel_rfl) (by kernel_rfl) (by kernel_rfl) rfl (fun _ _ _ h => h) ?_ hS ?_
      rotate_left 1
      · intro w' hSw
        obtain ⟨s0, s1, s2, s3⟩ := hSw
        go_simp
        first | done | rfl
      simp only [Act.put, List.setIfInBounds_toArray, List.set_cons_zero, List.set_cons_succ]
      refine Wk.take (i := 7) (v := ?_) (at_lit rfl) (at_lit rfl) (by kernel_rfl) (by kernel_rfl) (by kernel_rfl) (by kernel_rfl) rfl (fun _ _ _ h => h) ?_ hS ?_
      rotate_left 1
      · intro w' hSw
        obtain ⟨s0, s1, s2, s3⟩ := hSw
        go_simp
        first | done | rfl
      simp only [Act.put, List.setIfInBounds_toArray, List.set_cons_zero, List.set_cons_succ]
      refine Wk.take (i := 9) (v := ?_) (at_lit rfl) (at_lit rfl) (by kernel_rfl) (by kernel_rfl) (by kernel_rfl) (by kernel_rfl) rfl (fun _ _ _ h => h) ?_ hS ?_
      rotate_left 1
      · intro w' hSw
        obtain ⟨s0, s1, s2, s3⟩ := hSw
        go_simp
        first | done | rfl
      simp only [Act.put, List.setIfInBounds_toArray, List.set_cons_zero, List.set_cons_succ]
      refine Wk.take (i := 10) (v := ?_) (at_lit rfl) (at_lit rfl) (by kernel_rfl) (by kernel_rfl) (by kernel_rfl) (by kernel_rfl) rfl (fun _ _ _ h => h) ?_ hS ?_
      rotate_left 1
      · intro w' hSw
        obtain ⟨s0, s1, s2, s3⟩ := hSw
        go_simp
        first | done | rfl
      simp only [Act.put, List.setIfInBounds_toArray, List.set_cons_zero, List.set_cons_succ]
      refine Wk.take (i := 11) (v := ?_) (at_lit rfl) (at_lit rfl) (by kernel_rfl) (by kernel_rfl) (by kernel_rfl) (by kernel_rfl) rfl (fun _ _ _ h => h) ?_ hS ?_
      rotate_left 1
      · intro w' hSw
        obtain ⟨s0, s1, s2, s3⟩ := hSw
        go_simp
        first | done | rfl
      simp only [Act.put, List.setIfInBounds_toArray, List.set_cons_zero, List.set_cons_succ]
      refine Wk.take (i := 12) (v := ?_) (at_lit rfl) (at_lit rfl) (by kernel_rfl) (by kernel_rfl) (by kernel_rfl) (by kernel_rfl) rfl (fun _ _ _ h => h) ?_ hS ?_
      rotate_left 1
      · intro w' hSw
        obtain ⟨s0, s1, s2, s3⟩ := hSw
        go_simp
        first | done | rfl
      simp only [Act.put, List.setIfInBounds_toArray, List.set_cons_zero, List.set_cons_succ]
      refine Wk.take (i := 13) (v := ?_) (at_lit rfl) (at_lit rfl) (by kernel_rfl) (by kernel_rfl) (by kernel_rfl) (by kernel_rfl) rfl (fun _ _ _ h => h) ?_ hS ?_
      rotate_left 1
      · intro w' hSw
        obtain ⟨s0, s1, s2, s3⟩ := hSw
        go_simp
        first | done | rfl
      simp only [Act.put, List.setIfInBounds_toArray, List.set_cons_zero, List.set_cons_succ]
      refine Wk.take (i := 14) (v := ?_) (at_lit rfl) (at_lit rfl) (by kernel_rfl) (by kernel_rfl) (by kernel_rfl) (by kernel_rfl) rfl (fun _ _ _ h => h) ?_ hS ?_
      rotate_left 1
      · intro w' hSw
        obtain ⟨s0, s1, s2, s3⟩ := hSw
        go_simp
        first | done | rfl
      simp only [Act.put, List.setIfInBounds_toArray, List.set_cons_zero, List.set_cons_succ]
      refine Wk.one (i := 8) (at_lit rfl) (by kernel_rfl) (fun K hK => ?_)
      go_simp
      have hgA : Gr wr (wr.alloc (.cells #[] 9)).drew := ((Gr.refl wr).allocO _).drew
      refine hK _ _ (fun _ => ⟨gr_cell hgA d31, gr_cell hgA d11, gr_cell hgA hc0, gr_cell hgA hc1⟩) ?_
      clear hK K
      refine Wk.one (i := 15) (at_lit rfl) (by kernel_rfl) (fun K hK => ?_)
      refine st_copy (wr.alloc (.cells #[] 9)).drew (by rfl) (.tmp 24) (.tmp 30) (by rfl) wr.heap.size (by rfl) A' n' c' ps[k].2 (by rfl) ((hSx.keep hgA.below).more hgA.lt) hn16 ?_
      intro A4 c4 w4 hS4 hg4' hf4
      have hg4 := hgA.trans hg4'
      have hS : (fun w' : World => w'.cell? ⟨w.heap.size + 2, 1, none⟩ = some (.slice A2 k c2) ∧ w'.cell? ⟨w.heap.size, 1, none⟩ = some (.slice (some ad) n c) ∧ w'.cell? (ad.add (k * 2)) = some (.string ⟨ps[k].1.toArray⟩) ∧ w'.cell? ⟨(ad.add (k * 2)).block, (ad.add (k * 2)).off + 1, none⟩ = some (.slice A' n' c')) w4 := ⟨gr_cell hg4 d31, gr_cell hg4 d11, gr_cell hg4 hc0, gr_cell hg4 hc1⟩
      refine hK _ _ (fun _ => hS) ?_
      clear hK K
      simp only [Act.put, List.setIfInBounds_toArray, List.set_cons_zero, List.set_cons_succ]
      have hrow4 := hrow.gr hg4
      have hszA : wr.heap.size ≤ (wr.alloc (.cells #[] 9)).drew.heap.size := hgA.lt
      have hsz4 : w.heap.size + 3 ≤ w4.heap.size := by have := hg4.lt; omega
      have hown := hrow.own
      have hv4 : 0 < n' → ∀ a, A4 = some a → w.heap.size + 3 ≤ a.block ∧ (Value.slice A2 k c2).ownBlock ≠ some a.block := fun h0 a ha => by
        have h1 := hf4 h0 a ha
        refine ⟨by omega, fun e => ?_⟩
        have := (hown _ e).2
        omega
      have d31' := gr_cell hg4 d31
      have d11' := gr_cell hg4 d11
      have hc0' := gr_cell hg4 hc0
      have hc1' := gr_cell hg4 hc1
      have f31' : w4.frozen? ⟨w.heap.size + 2, 1, none⟩ = false := (hg4.frozen (by show w.heap.size + 2 < _; omega)).trans f31
      refine Wk.take (i := 16) (v := ?_) (at_lit rfl) (at_lit rfl) (by kernel_rfl) (by kernel_rfl) (by kernel_rfl) (by kernel_rfl) rfl (fun _ _ _ h => h) ?_ hS ?_
      rotate_left 1
      · intro w' hSw
        obtain ⟨s0, s1, s2, s3⟩ := hSw
        go_simp
        first | done | rfl
      simp only [Act.put, List.setIfInBounds_toArray, List.set_cons_zero, List.set_cons_succ]
      refine Wk.one (i := 17) (at_lit rfl) (by kernel_rfl) (fun K hK => ?_)
      go_simp
      have hgB : Gr w4 (w4.alloc (.cells #[.string ⟨ps[k].1.toArray⟩, .slice A4 n' c4] 79)) := (Gr.refl w4).allocO _
      refine hK _ _ (fun _ => ⟨gr_cell hgB d31', gr_cell hgB d11', gr_cell hgB hc0', gr_cell hgB hc1'⟩) ?_
      clear hK K
      refine Wk.one (i := 18) (at_lit rfl) (by kernel_rfl) (fun K hK => ?_)
      refine st_par0 w4 (by rfl) (.tmp 17) (.tmp 33) 46 79 Tryd.underlying46 info_par (by rfl) (w.heap.size + 3) (fun x => w.heap.size + 3 ≤ x) A2 k c2 (ps.take k) (by rfl) hrow4 ps[k] A4 n' c4 hS4 hv4 (by rfl) (by omega) hsz4 ?_
      intro A3 c3 w3 hrow3 hb3w
      have e31 := (hb3w.cell (p := ⟨w.heap.size + 2, 1, none⟩) (by show w.heap.size + 2 < _; omega)).trans d31'
      have g31 := (hb3w.frozen (p := ⟨w.heap.size + 2, 1, none⟩) (by show w.heap.size + 2 < _; omega)).trans f31'
      have hS : (fun w' : World => w'.cell? ⟨w.heap.size + 2, 1, none⟩ = some (.slice A2 k c2) ∧ w'.cell? ⟨w.heap.size, 1, none⟩ = some (.slice (some ad) n c) ∧ w'.cell? (ad.add (k * 2)) = some (.string ⟨ps[k].1.toArray⟩) ∧ w'.cell? ⟨(ad.add (k * 2)).block, (ad.add (k * 2)).off + 1, none⟩ = some (.slice A' n' c')) w3 :=
        ⟨e31, (hb3w.cell (by show w.heap.size < _; omega)).trans d11', (hb3w.cell (by rw [add_block]; omega)).trans hc0', (hb3w.cell (by show (ad.add (k * 2)).block < _; rw [add_block]; omega)).trans hc1'⟩
      refine hK _ _ (fun _ => hS) ?_
      clear hK K
      simp only [Act.put, List.setIfInBounds_toArray, List.set_cons_zero, List.set_cons_succ]
      refine Wk.take (i := 19) (v := ?_) (at_lit rfl) (at_lit rfl) (by kernel_rfl) (by kernel_rfl) (by kernel_rfl) (by kernel_rfl) rfl (fun _ _ _ h => h) ?_ hS ?_
      rotate_left 1
      · intro w' hSw
        obtain ⟨s0, s1, s2, s3⟩ := hSw
        go_simp
        first | done | rfl
      simp only [Act.put, List.setIfInBounds_toArray, List.set_cons_zero, List.set_cons_succ]
      refine Wk.one (i := 20) (at_lit rfl) (by kernel_rfl) (fun K hK => ?_)
      go_simp
      refine hK _ _ (fun h => absurd rfl h) ?_
      clear hK K
      refine Wk.done (by kernel_rfl) ?_
      have hbw4 : Below (w.heap.size + 3) wr w3 := (hg4.low hszx).trans hb3w
      have hb3n : Bx3 (w3.setCell ⟨w.heap.size + 2, 1, none⟩ (.slice A3 (k + 1) c3)) (w.heap.size + 2) (.string N) (.slice A3 (k + 1) c3) (.string V) := (hb3x.below hbw4 (by omega)).set1 _
      have hmv3 : Mv (w.heap.size + 2) w0 (w3.setCell ⟨w.heap.size + 2, 1, none⟩ (.slice A3 (k + 1) c3)) := (hmv.below (by rw [z3]; exact hbw4)).trans (Mv.set _ _ _ _)
      have hrow5 := hrow3.kept (Mv.set (w.heap.size + 2) w3 1 (.slice A3 (k + 1) c3)) (fun q hq => by injection hq with hq; subst hq; exact ⟨by omega, fun x hx => by have hx' : w.heap.size + 3 ≤ x := hx; omega⟩)
      go_wp2
      go_roundg (n - (k + 1))
      case measure => have := HG.out; omega
      case rel => exact ⟨A3, c3, k + 1, by go_num, by omega, hmv3, hb3n, by rw [HTK.out]; exact hrow5⟩
    · obtain rfl : k = n := by have := HG.out; omega
      rw [List.take_of_length_le (by rw [HL.out]; exact Nat.le_refl _)] at hrow
      have hb2x := hb2.mv hmv (by omega)
      have HX2 := Lib.hid hb2x
      have d0 := hb3x.c0
      have d1 := hb3x.c1
      have d2 := hb3x.c2
      obtain ⟨x0, x1, x2, f0, f1, f2⟩ := hb2x
      go_wp2
      obtain ⟨y0, y1, y2⟩ := HX2.out.set3 (.string N) (.slice A2 k c2) (.string V)
      have hrow2 := hrow.kept (mv_set3 wr (w.heap.size + 1) (.string N) (.slice A2 k c2) (.string V)) (fun q hq => by injection hq with hq; subst hq; exact ⟨by omega, fun x hx => by have hx' : w.heap.size + 3 ≤ x := hx; omega⟩)
      have hbw := (hg0.below.trans (hmv.low (B := w.heap.size) (by omega) (by omega))).trans (below_set3 (w := wr) (b := w.heap.size + 1) (by omega) (.string N) (.slice A2 k c2) (.string V))
      generalize World.setCell (World.setCell (World.setCell _ _ _) _ _) _ _ = W at *
      exact bodyPost_ret (v := .agg #[.string N, .slice A2 k c2, .string V]) (by simp [results, Tryd.results25, go_sem, y0, y1, y2]) rfl ⟨A2, c2, rfl, hrow2.fp (fun x (hx : _ ≤ x) => by omega) (fun x hx => by omega), hrow2.capt, ⟨hbw⟩⟩
theorem theirs_any (N V : ByteArray) (A : Option Addr) (n c : Nat) (ps : List Ln.Par) (w : World) (hP : Pars w w.heap.size A n ps) (hn : n * 40 ≤ 140737488355328) (hvn : ∀ p ∈ ps, p.2.length * 16 ≤ 140737488355328) :
    Calls Tryd.prog 25 #[.agg #[.string N, .slice A n c, .string V]] w fun e w' => ∃ A2 c2, e = .returned (.agg #[.string N, .slice A2 n c2, .string V]) ∧ Pars w' w'.heap.size A2 n ps ∧ n ≤ c2 ∧ Gr w w' :=
  (theirs_fr N V A n c ps w hP hn hvn).mono fun _ _ ⟨A2, c2, h1, h2, h3, h4⟩ => ⟨A2, c2, h1, h2.now, h3, h4⟩
end Go.Proofs.YtbfngdpdgmgfpaaDoor
namespace Go.Proofs.YtbfngdpdgmgfpaaDoor
open Go.RowKit

namespace Ln
/- a parameter with more values than are borne, those ahead of it small -/
def Wide (ps : List Par) (k : Nat) : Prop := ∃ k0, ∃ h : k0 < ps.length, k0 < k ∧ 60 < ps[k0].2.length ∧ wtPs (ps.take k0) ≤ 5000
def Sm (a : Nat) (ps : List Par) : Prop := a + wtPs ps ≤ 5000 ∨ Wide ps ps.length
theorem wide_no {ps : List Par} {k0 : Nat} (h : k0 < ps.length) (h6 : 60 < ps[k0].2.length) (k : Nat) (hk : k0 < k) : psB (ps.take k) = false := by
  cases e : psB (ps.take k)
  · rfl
  · have h1 := ((psB_iff _).1 e).1 ps[k0] (by rw [List.mem_take_iff_getElem]; exact ⟨k0, by omega, rfl⟩)
    have h2 := ((parB_iff _).1 h1).2.2.1
    omega
theorem Sm.calm {a : Nat} {ps : List Par} (h : Sm a ps) : Calm ps := by
  rcases h with h | ⟨k0, h0, _, h6, hw⟩
  · exact calm_of (by omega)
  · intro k hk hp hl v hv
    rcases Nat.lt_trichotomy k k0 with h | h | h
    · have h1 := wtPs_take ps k hk
      have h2 := wtPs_le (ps.take k0) (k + 1)
      rw [List.take_take, Nat.min_eq_left (by omega)] at h2
      have h3 := wtV_mem hv
      unfold wtP at h1
      omega
    · subst h; omega
    · rw [wide_no h0 h6 k h] at hp; cases hp
theorem Sm.formed {a : List UInt8} {b : List UInt8} {ps : List Par} (h : Sm (a.length + b.length) ps) (hf : formed ⟨a, ps, b⟩ = true) : a.length + b.length + wtPs ps ≤ 5000 := by
  rcases h with h | ⟨k0, h0, _, h6, _⟩
  · exact h
  · have h1 := ((formed_iff _).1 hf).2.2.2
    have h2 := wide_no h0 h6 ps.length h0
    rw [List.take_length] at h2
    rw [h2] at h1; cases h1
end Ln
theorem w64 {x : Int} (h : 0 ≤ x) (h2 : x ≤ 9223372036854775807) : wrap64 x = x := by unfold wrap64; omega
theorem w64_2 {x y : Int} (hx : 0 ≤ x) (hy : 0 ≤ y) (h : x + y ≤ 9223372036854775000) : wrap64 (wrap64 (x + y) + 1) = x + y + 1 := by
  have e := w64 (x := x + y) (by omega) (by omega)
  rw [e, w64 (by omega) (by omega)]
namespace Ln
theorem wtV_bound (vs : List (List UInt8)) (h : ∀ v ∈ vs, v.length ≤ 140737488355328) : wtV vs ≤ vs.length * 140737488355329 := by
  induction vs with
  | nil => simp [wtV_nil]
  | cons v vs ih =>
    have h1 := h v (by simp)
    have h2 := ih (fun x hx => h x (by simp [hx]))
    rw [wtV_cons, List.length_cons, Nat.add_mul]; omega
theorem Wide.more {ps : List Par} {k : Nat} (h : Wide ps k) : Wide ps (k + 1) := by
  obtain ⟨k0, h0, h1, h2, h3⟩ := h
  exact ⟨k0, h0, by omega, h2, h3⟩
end Ln
set_option maxHeartbeats 4000000 in
set_option maxRecDepth 100000 in
theorem few10_any (N V : ByteArray) (A : Option Addr) (n c : Nat) (ps : List Ln.Par) (w : World) (hP : Pars w w.heap.size A n ps) (hN : N.size ≤ 140737488355328) (hV : V.size ≤ 140737488355328) (hn : n ≤ 140737488355328)
    (hp1 : ∀ p ∈ ps, p.1.length ≤ 140737488355328) (hp2 : ∀ p ∈ ps, p.2.length ≤ 140737488355328) (hp3 : ∀ p ∈ ps, ∀ v ∈ p.2, v.length ≤ 140737488355328) :
    Calls Tryd.prog 43 #[.agg #[.string N, .slice A n c, .string V]] w fun e w' => ∃ b, e = .returned (.bool b) ∧ Gr w w' ∧ (b = true → Ln.Sm (N.size + V.size) ps) := by
  have HL := Lib.hid hP.1
  have hg0 : Gr w (w.alloc (.cells #[.string N, .slice A n c, .string V] 53)) := (Gr.refl w).allocO _
  have hb1 := Bx3.new w (.string N) (.slice A n c) (.string V) 53
  go_enter Tryd.func43, Tryd.ntmps43
  go_wp2
  generalize w.alloc (.cells #[.string N, .slice A n c, .string V] 53) = w0 at *
  go_loopg [3, 16] n (fun g v3 v16 wx => ∃ m : Int, ∃ k : Nat, v3 = .int .i64 m ∧ v16 = .int .i64 (k : Int) ∧ k + g = n ∧ w0 = wx ∧ Hid ((m = ((N.size + V.size + Ln.wtPs (ps.take k) : Nat) : Int) ∧ (0 < k → m ≤ 5000)) ∨ Ln.Wide ps k))
  case atStart => exact ⟨_, 0, rfl, rfl, by omega, rfl, Lib.hid (.inl ⟨by simp [Ln.wtPs_nil], fun h => absurd h (by omega)⟩)⟩
  case round =>
    obtain ⟨m, k, rfl, rfl, hkg, rfl, HSt⟩ := hrel
    have HG := Lib.hid hkg
    clear hkg
    have d1 := hb1.c1
    by_cases hk : k < n
    · obtain ⟨ad, hk', rfl, hbl, hc0', A', n', c', hc1', hS⟩ := hP.at_ hk
      have hc0 := (hg0.below.cell (p := ad.add (k * 2)) (by rw [add_block]; exact hbl)).trans hc0'
      have hc1 := (hg0.below.cell (p := ⟨(ad.add (k * 2)).block, (ad.add (k * 2)).off + 1, none⟩) (by show (ad.add (k * 2)).block < _; rw [add_block]; exact hbl)).trans hc1'
      have hq1 := hp1 _ (List.getElem_mem hk')
      have hq3 := hp3 _ (List.getElem_mem hk')
      have hnz : (ByteArray.mk ps[k].1.toArray).size = ps[k].1.length := size_mk _
      have hwt := Ln.wtPs_take ps k hk'
      have hwp : Ln.wtP ps[k] = ps[k].1.length + 1 + Ln.wtV ps[k].2 := rfl
      have hvl := hS.1
      rw [← hnz] at hq1 hwp
      -- what the sum is, as long as nothing wide has been met
      have HB : Hid (¬ Ln.Wide ps k → m = ((N.size + V.size + Ln.wtPs (ps.take k) : Nat) : Int) ∧ Ln.wtPs (ps.take k) ≤ 5000 ∧ N.size + V.size + Ln.wtPs (ps.take k) ≤ 281474976710656) := Lib.hid (fun hx => by
        rcases HSt.out with ⟨h1, h2⟩ | h
        · refine ⟨h1, ?_, ?_⟩ <;> rcases Nat.eq_zero_or_pos k with h0 | h0
          · subst h0; simp [Ln.wtPs_nil]
          · have := h2 h0; omega
          · subst h0; rw [List.take_zero, Ln.wtPs_nil]; omega
          · have := h2 h0; omega
        · exact absurd h hx)
      have HW := Lib.hid (And.intro hwt (And.intro hwp hvl))
      clear hwt hwp hvl hnz HSt
      generalize (ByteArray.mk ps[k].1.toArray) = nb at *
      obtain ⟨vs, hvs⟩ : ∃ vs, ps[k].2 = vs := ⟨_, rfl⟩
      rw [hvs] at hS hq3
      have HVS := Lib.hid hvs
      clear hvs
      go_wp2
      go_loopg [3, 36] n' (fun g v3 v36 wy => ∃ m1 : Int, ∃ i : Nat, v3 = .int .i64 m1 ∧ v36 = .int .i64 (i : Int) ∧ i + g = n' ∧ w0 = wy ∧ Hid (¬ Ln.Wide ps k → i ≤ 60 → m1 = ((N.size + V.size + Ln.wtPs (ps.take k) + nb.size + 1 + Ln.wtV (vs.take i) : Nat) : Int)))
      case atStart =>
        refine ⟨_, 0, rfl, rfl, by omega, rfl, Lib.hid (fun hx _ => ?_)⟩
        obtain ⟨h1, h2, h3⟩ := HB.out hx
        rw [h1, w64_2 (by omega) (by omega) (by omega), List.take_zero, Ln.wtV_nil]
        omega
      case round =>
        obtain ⟨m1, i, rfl, rfl, hig, rfl, HI⟩ := hrel
        have HGI := Lib.hid hig
        clear hig
        by_cases hi : i < n'
        · obtain ⟨av, hi', rfl, hbv, hcv0⟩ := hS.at_ hi
          have hcv := (hg0.below.cell (p := av.add i) (by rw [add_block]; exact hbv)).trans hcv0
          have hle := hq3 _ (List.getElem_mem hi')
          have hvz : (ByteArray.mk vs[i].toArray).size = vs[i].length := size_mk _
          have hn'b : n' ≤ 140737488355328 := by
            have h1 := hp2 _ (List.getElem_mem hk')
            rw [HW.out.2.2] at h1; exact h1
          have HT := Lib.hid (Ln.wtV_take vs i hi')
          have HBD := Lib.hid (Ln.wtV_bound (vs.take i) (fun v hv => hq3 v (List.mem_of_mem_take hv)))
          have HTL : Hid ((vs.take i).length = i) := Lib.hid (by rw [List.length_take]; omega)
          rw [← hvz] at hle
          have HVZ := Lib.hid hvz
          clear hvz hcv0
          generalize (ByteArray.mk vs[i].toArray) = sv at *
          go_wp2
          go_roundg (n' - (i + 1))
          case measure => have := HGI.out; omega
          case rel =>
            refine ⟨_, i + 1, rfl, by go_num, by omega, rfl, Lib.hid (fun hx h60 => ?_)⟩
            obtain ⟨h1, h2, h3⟩ := HB.out hx
            have h4 := HI.out hx (by omega)
            have h5 := HBD.out
            rw [HTL.out] at h5
            have h6 : i * 140737488355329 ≤ 60 * 140737488355329 := Nat.mul_le_mul_right _ (by omega)
            rw [h4, w64_2 (by omega) (by omega) (by omega), HT.out, ← HVZ.out]
            omega
        · obtain rfl : i = n' := by have := HGI.out; omega
          have hall : vs.take i = vs := List.take_of_length_le (by have := HW.out.2.2; rw [HVS.out] at this; omega)
          have HN' : Hid (¬ 5000 < m1 → (m1 = ((N.size + V.size + Ln.wtPs (ps.take (k + 1)) : Nat) : Int) ∧ (0 < k + 1 → m1 ≤ 5000)) ∨ Ln.Wide ps (k + 1)) := Lib.hid (fun h5 => by
            by_cases hx : Ln.Wide ps k
            · exact .inr hx.more
            · by_cases h60 : i ≤ 60
              · have h4 := HI.out hx h60
                rw [hall] at h4
                have h7 := HW.out.1
                have h8 := HW.out.2.1
                rw [HVS.out] at h8
                exact .inl ⟨by rw [h4]; omega, fun _ => by omega⟩
              · have h9 := (HB.out hx).2.1
                have h10 := HW.out.2.2
                exact .inr ⟨k, hk', by omega, by omega, h9⟩)
          clear hall
          by_cases h5 : 5000 < m1
          · go_wp2
            go_ret
            exact .inl ⟨rfl, hg0⟩
          · have HN2 := Lib.hid (HN'.out h5)
            go_wp2
            go_roundg (n - (k + 1))
            case measure => have := HG.out; omega
            case rel => exact ⟨m1, k + 1, rfl, by go_num, by omega, rfl, HN2⟩
    · obtain rfl : k = n := by have := HG.out; omega
      have hall : ps.take k = ps := List.take_of_length_le (by rw [HL.out]; exact Nat.le_refl _)
      have HE : Hid (m ≤ 5000 → Ln.Sm (N.size + V.size) ps) := Lib.hid (fun h5 => by
        rcases HSt.out with ⟨h1, _⟩ | h
        · rw [hall] at h1
          exact .inl (by omega)
        · exact .inr (by rw [HL.out]; exact h))
      clear hall
      go_wp2
      go_ret
      exact ⟨_, rfl, hg0, fun h => HE.out (of_decide_eq_true h)⟩
end Go.Proofs.YtbfngdpdgmgfpaaDoor
namespace Go.Proofs.YtbfngdpdgmgfpaaDoor
open Go.RowKit

set_option maxHeartbeats 4000000 in
set_option maxRecDepth 100000 in
theorem same10_any (N V N2 V2 : ByteArray) (A A2 : Option Addr) (n c n2 c2 : Nat) (ps qs : List Ln.Par) (w : World) (hP : Pars w w.heap.size A n ps) (hQ : Pars w w.heap.size A2 n2 qs) (hn : n ≤ 140737488355328) (hv : ∀ p ∈ ps, p.2.length ≤ 140737488355328) (q : Bool) (hq : q = true ↔ (N.data.toList = N2.data.toList ∧ V.data.toList = V2.data.toList ∧ ps = qs)) :
    Calls Tryd.prog 22 #[.agg #[.string N, .slice A n c, .string V], .agg #[.string N2, .slice A2 n2 c2, .string V2]] w fun e w' => e = .returned (.bool q) ∧ Gr w w' := by
  have hl : ps.length = n := hP.1
  have hl2 : qs.length = n2 := hQ.1
  have hg1 : Gr w ((w.alloc (.cells #[.string N, .slice A n c, .string V] 53)).alloc (.cells #[.string N2, .slice A2 n2 c2, .string V2] 53)) := ((Gr.refl w).allocO _).allocO _
  have hx1 := (Bx3.new w (.string N) (.slice A n c) (.string V) 53).gr ((Gr.refl _).allocO (.cells #[.string N2, .slice A2 n2 c2, .string V2] 53))
  have hx2 := Bx3.new (w.alloc (.cells #[.string N, .slice A n c, .string V] 53)) (.string N2) (.slice A2 n2 c2) (.string V2) 53
  have z1 : (w.alloc (.cells #[.string N, .slice A n c, .string V] 53)).heap.size = w.heap.size + 1 := by simp
  rw [z1] at hx2
  clear z1
  by_cases h1 : N.data.toList = N2.data.toList
  · have hs1 : (N.toList == N2.toList) = true := str_eq ⟨fun _ => h1, fun _ => rfl⟩
    by_cases h2 : V.data.toList = V2.data.toList
    · have hs2 : (V.toList == V2.toList) = true := str_eq ⟨fun _ => h2, fun _ => rfl⟩
      by_cases hnn : n = n2
      · subst hnn
        have HL := Lib.hid (And.intro hl hl2)
        have HQ := Lib.hid (show q = true ↔ ps = qs by rw [hq]; exact ⟨fun h => h.2.2, fun h => ⟨h1, h2, h⟩⟩)
        clear hl hl2 hq h1 h2
        go_enter Tryd.func22, Tryd.ntmps22
        go_wp2
        generalize (w.alloc (.cells #[.string N, .slice A n c, .string V] 53)).alloc (.cells #[.string N2, .slice A2 n c2, .string V2] 53) = w0 at *
        go_loopg [30] n (fun g v wx => ∃ k : Nat, v = .int .i64 (k : Int) ∧ k + g = n ∧ Gr w0 wx ∧ Hid (ps.take k = qs.take k))
        case atStart => exact ⟨0, rfl, by omega, Gr.refl _, Lib.hid (by simp)⟩
        case round =>
          obtain ⟨k, rfl, hkg, hg, HT⟩ := hrel
          have HG := Lib.hid hkg
          clear hkg
          have hgW := hg1.trans hg
          have hx1r := hx1.gr hg
          have hx2r := hx2.gr hg
          by_cases hk : k < n
          · have hPr := hP.gr hgW
            have hQr := hQ.gr hgW
            obtain ⟨ad, hk', rfl, hbl, hc0, A', n', c', hc1, hS⟩ := hPr.at_ hk
            obtain ⟨ad2, hk2, rfl, hbl2, hd0, A2', n2', c2', hd1, hS2⟩ := hQr.at_ hk
            have hnv : n' ≤ 140737488355328 := by have := hS.1; have := hv _ (List.getElem_mem hk'); omega
            have HT1 := Lib.hid (List.take_succ_eq_append_getElem hk')
            have HT2 := Lib.hid (List.take_succ_eq_append_getElem hk2)
            have HX := Lib.hid (fun (h : ps = qs) => show ps[k] = qs[k] by subst h; rfl)
            have e0 : ∀ x : List UInt8, (ByteArray.mk x.toArray).data.toList = x := fun _ => rfl
            have cE := fun w1 (s1 : Strs w1 w1.heap.size A' n' ps[k].2) (s2 : Strs w1 w1.heap.size A2' n2' qs[k].2) => lsame_any A' A2' n' c' n2' c2' ps[k].2 qs[k].2 w1 s1 s2 hnv
            have b0 := after_cell hc0
            have b1 := after_cell hc1
            have d0 := after_cell hd0
            have d1 := after_cell hd1
            have f0 := after_cell hx1r.c1
            have f1 := after_cell hx2r.c1
            by_cases hnm : ps[k].1 = qs[k].1
            · have hs3 : ((ByteArray.mk ps[k].1.toArray).toList == (ByteArray.mk qs[k].1.toArray).toList) = true := str_eq ⟨fun _ => hnm, fun _ => rfl⟩
              by_cases hvl : ps[k].2 = qs[k].2
              · have cE1 := fun w1 s1 s2 => (cE w1 s1 s2 true ⟨fun _ => hvl, fun _ => rfl⟩).mono (R' := fun e w' => e = .returned (.bool true) ∧ Gr w1 w') (fun _ _ h => ⟨h.1, gr_of_drew h.2⟩)
                have HE : Hid (ps.take (k + 1) = qs.take (k + 1)) := Lib.hid (by rw [HT1.out, HT2.out, HT.out, Prod.ext hnm hvl])
                clear hnm hvl HX HT1 HT2 cE hx1r hx2r e0
                generalize (ByteArray.mk ps[k].1.toArray) = s1 at *
                generalize (ByteArray.mk qs[k].1.toArray) = s2 at *
                go_wp2
                refine wp_region_after (by kernel_rfl) (by kernel_rfl) ?_
                repeat (go_big_quiet_step (first | (go_at_call 42; exact qafter (cE1 _ ((hS.keep (Gr.below (by exact (After.gr _)))).more (Gr.lt (by exact (After.gr _)))) ((hS2.keep (Gr.below (by exact (After.gr _)))).more (Gr.lt (by exact (After.gr _)))))))) 
                refine wpQuiet_nil ?_
                rintro _ ⟨⟨w6, hg6⟩, rfl⟩
                go_wp2
                go_roundg (n - (k + 1))
                case measure => have := HG.out; omega
                case rel => exact ⟨k + 1, by go_num, by omega, hg.trans hg6, HE⟩
              · have cE1 := fun w1 s1 s2 => (cE w1 s1 s2 false ⟨fun h => (by cases h), fun h => absurd h hvl⟩).mono (R' := fun e w' => e = .returned (.bool false) ∧ Gr w1 w') (fun _ _ h => ⟨h.1, gr_of_drew h.2⟩)
                have HE : Hid (q = false) := Lib.hid (by
                  cases hc : q
                  · rfl
                  · exact absurd (congrArg Prod.snd (HX.out (HQ.out.1 hc))) hvl)
                clear hnm hvl HX HT1 HT2 cE hx1r hx2r e0
                generalize (ByteArray.mk ps[k].1.toArray) = s1 at *
                generalize (ByteArray.mk qs[k].1.toArray) = s2 at *
                go_wp2
                refine wp_region_after (by kernel_rfl) (by kernel_rfl) ?_
                repeat (go_big_quiet_step (first | (go_at_call 42; exact qafter (cE1 _ ((hS.keep (Gr.below (by exact (After.gr _)))).more (Gr.lt (by exact (After.gr _)))) ((hS2.keep (Gr.below (by exact (After.gr _)))).more (Gr.lt (by exact (After.gr _)))))))) 
                refine wpQuiet_nil ?_
                rintro _ ⟨⟨w6, hg6⟩, rfl⟩
                go_wp2
                go_ret
                exact ⟨ret_bool HE.out.symm, hgW.trans hg6⟩
            · have hs3 : ((ByteArray.mk ps[k].1.toArray).toList == (ByteArray.mk qs[k].1.toArray).toList) = false := str_eq ⟨fun h => (by cases h), fun h => absurd h hnm⟩
              have HE : Hid (q = false) := Lib.hid (by
                  cases hc : q
                  · rfl
                  · exact absurd (congrArg Prod.fst (HX.out (HQ.out.1 hc))) hnm)
              clear hnm HX HT1 HT2 cE hx1r hx2r e0
              generalize (ByteArray.mk ps[k].1.toArray) = s1 at *
              generalize (ByteArray.mk qs[k].1.toArray) = s2 at *
              go_wp2
              refine wp_region_after (by kernel_rfl) (by kernel_rfl) ?_
              repeat (go_big_quiet_step (fail))
              refine wpQuiet_nil ?_
              rintro _ ⟨⟨w6, hg6⟩, rfl⟩
              go_wp2
              go_ret
              exact ⟨ret_bool HE.out.symm, hgW.trans hg6⟩
          · obtain rfl : k = n := by have := HG.out; omega
            have HE : Hid (q = true) := Lib.hid (HQ.out.2 (by
              have h := HT.out
              rwa [List.take_of_length_le (by rw [HL.out.1]; exact Nat.le_refl _), List.take_of_length_le (by rw [HL.out.2]; exact Nat.le_refl _)] at h))
            go_wp2
            go_ret
            exact ⟨ret_bool HE.out.symm, hgW⟩
      · have HE : Hid (q = false) := Lib.hid (by
          cases hc : q
          · rfl
          · exact absurd (by rw [← hl, ← hl2, (hq.1 hc).2.2]) hnn)
        have hne : ((n : Int) == (n2 : Int)) = false := by rw [beq_eq_false_iff_ne]; omega
        clear hl hl2 hq hnn h1 h2
        go_enter Tryd.func22, Tryd.ntmps22
        go_wp2
        go_ret
        exact ⟨ret_bool HE.out.symm, hg1⟩
    · have hs2 : (V.toList == V2.toList) = false := str_eq ⟨fun h => (by cases h), fun h => absurd h h2⟩
      have HE : Hid (q = false) := Lib.hid (by
        cases hc : q
        · rfl
        · exact absurd (hq.1 hc).2.1 h2)
      clear h1 h2 hq
      go_enter Tryd.func22, Tryd.ntmps22
      go_wp2
      go_ret
      exact ⟨ret_bool HE.out.symm, hg1⟩
  · have hs1 : (N.toList == N2.toList) = false := str_eq ⟨fun h => (by cases h), fun h => absurd h h1⟩
    have HE : Hid (q = false) := Lib.hid (by
      cases hc : q
      · rfl
      · exact absurd (hq.1 hc).1 h1)
    clear h1 hq
    go_enter Tryd.func22, Tryd.ntmps22
    go_wp2
    go_ret
    exact ⟨ret_bool HE.out.symm, hg1⟩
end Go.Proofs.YtbfngdpdgmgfpaaDoor
namespace Go.Proofs.YtbfngdpdgmgfpaaDoor
open Go.RowKit

namespace Ln
/- of a component and all that are nested in it -/
inductive AllT (P : Li → Prop) (Q : Tr → Prop) : Tr → Prop
  | mk (t : Tr) (hq : Q t) (hl : ∀ l ∈ t.lines, P l) (hk : ∀ u ∈ t.kids, AllT P Q u) : AllT P Q t
theorem AllT.q {P : Li → Prop} {Q : Tr → Prop} {t : Tr} (h : AllT P Q t) : Q t := by cases h; assumption
theorem AllT.l {P : Li → Prop} {Q : Tr → Prop} {t : Tr} (h : AllT P Q t) : ∀ l ∈ t.lines, P l := by cases h; assumption
theorem AllT.k {P : Li → Prop} {Q : Tr → Prop} {t : Tr} (h : AllT P Q t) : ∀ u ∈ t.kids, AllT P Q u := by cases h; assumption
theorem AllT.imp {P P' : Li → Prop} {Q Q' : Tr → Prop} (hP : ∀ l, P l → P' l) (hQ : ∀ t, Q t → Q' t) {t : Tr} (h : AllT P Q t) : AllT P' Q' t := by
  induction h with
  | mk t hq hl hk ih => exact .mk t (hQ t hq) (fun l h => hP l (hl l h)) ih
/- sizes that memory bears -/
structure Rw (l : Li) : Prop where
  name : l.name.length ≤ 140737488355328
  value : l.value.length ≤ 140737488355328
  num : l.ps.length * 40 ≤ 140737488355328
  p1 : ∀ p ∈ l.ps, p.1.length ≤ 140737488355328
  p2 : ∀ p ∈ l.ps, p.2.length * 16 ≤ 140737488355328
  p3 : ∀ p ∈ l.ps, ∀ v ∈ p.2, v.length ≤ 140737488355328
theorem Rw.p2' {l : Li} (h : Rw l) : ∀ p ∈ l.ps, p.2.length ≤ 140737488355328 := fun p hp => by have := h.p2 p hp; omega
def RwT (t : Tr) : Prop := AllT Rw (fun t => t.name.length ≤ 140737488355328 ∧ t.lines.length * 56 ≤ 140737488355328 ∧ t.kids.length * 64 ≤ 140737488355328) t
def SzT (t : Tr) : Prop := AllT (fun _ => True) (fun t => t.lines.length * 56 ≤ 140737488355328 ∧ t.kids.length * 64 ≤ 140737488355328) t
theorem RwT.sz {t : Tr} (h : RwT t) : SzT t := AllT.imp (fun _ _ => trivial) (fun _ h => h.2) h
end Ln
theorem own_any (nm : ByteArray) (A A2 : Option Addr) (n c n2 c2 : Nat) (w : World) (hn : n ≤ 140737488355328) :
    Calls Tryd.prog 33 #[.agg #[.string nm, .slice A n c, .slice A2 n2 c2]] w fun e w' => e = .returned (.int .i64 ((n + 2 : Nat) : Int)) ∧ Gr w w' := by
  go_enter Tryd.func33, Tryd.ntmps33
  go_wp2
  go_ret
  exact ⟨ret_int (by go_num), (Gr.refl _).allocO _⟩
theorem w64c {x : Int} (h : 0 ≤ x) (h2 : x ≤ 9223372036854775807) : wrap64 x = x := by unfold wrap64; omega
theorem w64_add (a b : Int) : wrap64 (wrap64 a + wrap64 b) = wrap64 (a + b) := by unfold wrap64; omega
set_option maxHeartbeats 1000000 in
theorem count_w (d : Nat) : ∀ (nm : ByteArray) (A A2 : Option Addr) (n c n2 c2 : Nat) (ks : List Ln.Tr) (w : World), Kds d w w.heap.size A2 n2 ks → n * 56 ≤ 140737488355328 → n2 * 64 ≤ 140737488355328 → (∀ u ∈ ks, Ln.SzT u) →
    Calls Tryd.prog 14 #[.agg #[.string nm, .slice A n c, .slice A2 n2 c2]] w fun e w' => e = .returned (.int .i64 (wrap64 ((n + 2 + Ln.cnts ks : Nat) : Int))) ∧ Gr w w' := by
  induction d using Nat.strongRecOn with
  | _ d ih =>
  intro nm A A2 n c n2 c2 ks w hK hn hn3 hS
  have HL := Lib.hid hK.len
  have hn2 : n2 ≤ 140737488355328 := by omega
  have cO := fun w => own_any nm A A2 n c n2 c2 w (by omega)
  have hg0 : Gr w (w.alloc (.cells #[.string nm, .slice A n c, .slice A2 n2 c2] 31)) := (Gr.refl w).allocO _
  have hx0 := Bx3.new w (.string nm) (.slice A n c) (.slice A2 n2 c2) 31
  go_enter Tryd.func14, Tryd.ntmps14
  go_wp2_with (go_at_call 33; refine (cO _).mono ?_; rintro e w1 ⟨rfl, hg1⟩; have hx1 := hx0.gr hg1; obtain ⟨a0, a1, a2, a3, a4, a5⟩ := hx1)
  go_loopg [3, 11] n2 (fun g v3 v11 wx => ∃ (k : Nat) (m : Int), v11 = .int .i64 (k : Int) ∧ v3 = .int .i64 m ∧ k + g = n2 ∧ Hid (m = wrap64 ((n + 2 + Ln.cnts (ks.take k) : Nat) : Int)) ∧ Gr w1 wx)
  case atStart => exact ⟨0, _, rfl, rfl, by omega, Lib.hid (by rw [List.take_zero, Ln.cnts_nil, w64c (by omega) (by omega)]; omega), Gr.refl _⟩
  case round =>
    obtain ⟨k, m, rfl, rfl, hkg, HM, hg3⟩ := hrel
    have HG := Lib.hid hkg
    clear hkg
    have hg4 := (hg0.trans hg1).trans hg3
    by_cases hk : k < n2
    · obtain ⟨d', hd', ad, hk', A1, n1, c1, A3, n3, c3, rfl, hbl, hc0, hc1, hc2, hLn, hKn⟩ := (hK.gr hg4).at_ hk
      have hct := Ln.cnts_take ks k hk'
      have hce := Ln.cnt_eq ks[k]
      rw [hLn.1] at hce
      have hmm := HM.out
      have hSk := hS _ (List.getElem_mem hk')
      obtain ⟨hz1, hz2⟩ := hSk.q
      rw [hLn.1] at hz1
      rw [hKn.len] at hz2
      have cC := fun w1 (h1 : Kds d' w1 w1.heap.size A3 n3 ks[k].kids) => ih d' hd' ⟨ks[k].name.toArray⟩ A1 A3 n1 c1 n3 c3 ks[k].kids w1 h1 hz1 hz2 hSk.k
      have hg5 : Gr wr (wr.alloc (.cells #[.string ⟨ks[k].name.toArray⟩, .slice A1 n1 c1, .slice A3 n3 c3] 31)) := (Gr.refl wr).allocO _
      have hK5 := hKn.gr hg5
      have cC := cC _ hK5
      obtain ⟨q, hq⟩ : ∃ q : Int, wrap64 ((n1 + 2 + Ln.cnts ks[k].kids : Nat) : Int) = q := ⟨_, rfl⟩
      rw [hq] at cC
      have HQ : Hid (wrap64 (m + q) = wrap64 ((n + 2 + Ln.cnts (ks.take (k + 1)) : Nat) : Int)) := Lib.hid (by rw [hmm, ← hq, w64_add, hct, hce]; congr 1; omega)
      clear hct hce hmm hq ih HM hSk hz1 hz2 hS
      generalize (ByteArray.mk ks[k].name.toArray) = nb at *
      go_wp2_with (go_at_call 14; refine cC.mono ?_; rintro e w6 ⟨rfl, hg6⟩)
      go_roundg (n2 - (k + 1))
      case measure => have := HG.out; omega
      case rel => exact ⟨k + 1, _, by go_num, rfl, by omega, HQ, hg3.trans (hg5.trans hg6)⟩
    · obtain rfl : k = n2 := by have := HG.out; omega
      have hm := HM.out
      rw [List.take_of_length_le (by rw [HL.out]; exact Nat.le_refl _)] at hm
      have HM2 := Lib.hid hm
      clear hm HM
      go_wp2
      go_ret
      exact ⟨by rw [HM2.out]; rfl, hg4⟩
set_option maxHeartbeats 1000000 in
theorem refcount_w (d : Nat) : ∀ (nm : ByteArray) (A A2 : Option Addr) (n c n2 c2 : Nat) (ks : List Ln.Tr) (w : World), Kds d w w.heap.size A2 n2 ks → n * 56 ≤ 140737488355328 → n2 * 64 ≤ 140737488355328 → (∀ u ∈ ks, Ln.SzT u) →
    Calls Tryd.prog 15 #[.agg #[.string nm, .slice A n c, .slice A2 n2 c2]] w fun e w' => e = .returned (.int .i64 (wrap64 ((n + 2 + Ln.cnts ks : Nat) : Int))) ∧ Gr w w' := by
  induction d using Nat.strongRecOn with
  | _ d ih =>
  intro nm A A2 n c n2 c2 ks w hK hn hn3 hS
  have HL := Lib.hid hK.len
  have hn2 : n2 ≤ 140737488355328 := by omega
  have hn1 : n + 2 ≤ 140737488355328 := by omega
  have hg0 : Gr w (w.alloc (.cells #[.string nm, .slice A n c, .slice A2 n2 c2] 25)) := (Gr.refl w).allocO _
  have hx0 := Bx3.new w (.string nm) (.slice A n c) (.slice A2 n2 c2) 25
  go_enter Tryd.func15, Tryd.ntmps15
  go_wp2
  go_loopg [3, 12] n2 (fun g v3 v12 wx => ∃ (k : Nat) (m : Int), v12 = .int .i64 (k : Int) ∧ v3 = .int .i64 m ∧ k + g = n2 ∧ Hid (m = wrap64 ((n + 2 + Ln.cnts (ks.take k) : Nat) : Int)) ∧ Gr (w.alloc (.cells #[.string nm, .slice A n c, .slice A2 n2 c2] 25)) wx)
  case atStart => exact ⟨0, _, rfl, rfl, by omega, Lib.hid (by rw [List.take_zero, Ln.cnts_nil, w64c (by omega) (by omega)]; omega), Gr.refl _⟩
  case round =>
    obtain ⟨k, m, rfl, rfl, hkg, HM, hg3⟩ := hrel
    have HG := Lib.hid hkg
    clear hkg
    have hg4 := hg0.trans hg3
    by_cases hk : k < n2
    · obtain ⟨d', hd', ad, hk', A1, n1, c1, A3, n3, c3, rfl, hbl, hc0, hc1, hc2, hLn, hKn⟩ := (hK.gr hg4).at_ hk
      have hct := Ln.cnts_take ks k hk'
      have hce := Ln.cnt_eq ks[k]
      rw [hLn.1] at hce
      have hmm := HM.out
      have hSk := hS _ (List.getElem_mem hk')
      obtain ⟨hz1, hz2⟩ := hSk.q
      rw [hLn.1] at hz1
      rw [hKn.len] at hz2
      have cC := fun w1 (h1 : Kds d' w1 w1.heap.size A3 n3 ks[k].kids) => ih d' hd' ⟨ks[k].name.toArray⟩ A1 A3 n1 c1 n3 c3 ks[k].kids w1 h1 hz1 hz2 hSk.k
      obtain ⟨q, hq⟩ : ∃ q : Int, wrap64 ((n1 + 2 + Ln.cnts ks[k].kids : Nat) : Int) = q := ⟨_, rfl⟩
      rw [hq] at cC
      have HQ : Hid (wrap64 (m + q) = wrap64 ((n + 2 + Ln.cnts (ks.take (k + 1)) : Nat) : Int)) := Lib.hid (by rw [hmm, ← hq, w64_add, hct, hce]; congr 1; omega)
      have hx3 := hx0.gr hg3
      obtain ⟨a0, a1, a2, a3, a4, a5⟩ := hx3
      clear hct hce hmm hq ih HM hSk hz1 hz2 hS
      generalize (ByteArray.mk ks[k].name.toArray) = nb at *
      have hkn : (k : Int) < (n2 : Int) := by omega
      go_wp2_with (go_at_call 15; refine (cC _ hKn).mono ?_; rintro e w6 ⟨rfl, hg6⟩)
      go_roundg (n2 - (k + 1))
      case measure => have := HG.out; omega
      case rel => exact ⟨k + 1, _, by go_num, rfl, by omega, HQ, hg3.trans hg6⟩
    · obtain rfl : k = n2 := by have := HG.out; omega
      have hm := HM.out
      rw [List.take_of_length_le (by rw [HL.out]; exact Nat.le_refl _)] at hm
      have HM2 := Lib.hid hm
      clear hm HM
      go_wp2
      go_ret
      exact ⟨by rw [HM2.out]; rfl, hg4⟩
theorem count_any (d : Nat) (nm : ByteArray) (A A2 : Option Addr) (n c n2 c2 : Nat) (ks : List Ln.Tr) (w : World) (hK : Kds d w w.heap.size A2 n2 ks) (hn : n * 56 ≤ 140737488355328) (hn2 : n2 * 64 ≤ 140737488355328) (hS : ∀ u ∈ ks, Ln.SzT u) (hb : n + 2 + Ln.cnts ks ≤ 1000000000) :
    Calls Tryd.prog 14 #[.agg #[.string nm, .slice A n c, .slice A2 n2 c2]] w fun e w' => e = .returned (.int .i64 ((n + 2 + Ln.cnts ks : Nat) : Int)) ∧ Gr w w' := by
  have h := count_w d nm A A2 n c n2 c2 ks w hK hn hn2 hS
  rwa [w64c (by omega) (by omega)] at h
theorem refcount_any (d : Nat) (nm : ByteArray) (A A2 : Option Addr) (n c n2 c2 : Nat) (ks : List Ln.Tr) (w : World) (hK : Kds d w w.heap.size A2 n2 ks) (hn : n * 56 ≤ 140737488355328) (hn2 : n2 * 64 ≤ 140737488355328) (hS : ∀ u ∈ ks, Ln.SzT u) (hb : n + 2 + Ln.cnts ks ≤ 1000000000) :
    Calls Tryd.prog 15 #[.agg #[.string nm, .slice A n c, .slice A2 n2 c2]] w fun e w' => e = .returned (.int .i64 ((n + 2 + Ln.cnts ks : Nat) : Int)) ∧ Gr w w' := by
  have h := refcount_w d nm A A2 n c n2 c2 ks w hK hn hn2 hS
  rwa [w64c (by omega) (by omega)] at h
namespace Ln
/- what room returns -/
def rm (t : Tr) (d l : Nat) : Int := if dep t ≤ d ∧ cnt t ≤ l then ((l - cnt t : Nat) : Int) else -1
def rms (ks : List Tr) (d l : Nat) : Int := if deps ks ≤ d ∧ cnts ks ≤ l then ((l - cnts ks : Nat) : Int) else -1
theorem rms_no (ks : List Tr) (d l k : Nat) (h : rms (ks.take k) d l = -1) : rms ks d l = -1 := by
  have h1 := cnts_le ks k
  have h2 := deps_le ks k
  unfold rms at h ⊢
  split at h
  · omega
  · rw [if_neg (by omega)]
theorem rms_nil (d l : Nat) : rms [] d l = (l : Int) := by simp [rms, deps, cnts]
theorem rms_at (ks : List Tr) (k d l r : Nat) (hk : k < ks.length) (h : rms (ks.take k) d l = (r : Int)) : rms (ks.take (k + 1)) d l = rm ks[k] d r := by
  have h1 := cnts_take ks k hk
  have h2 := deps_take ks k hk
  unfold rms at h ⊢
  unfold rm
  split at h
  · by_cases h3 : dep ks[k] ≤ d ∧ cnt ks[k] ≤ r
    · rw [if_pos (by omega), if_pos h3]; omega
    · rw [if_neg (by omega), if_neg h3]
  · omega
theorem rm_cases (t : Tr) (d l : Nat) : rm t d l = -1 ∨ ∃ r : Nat, r ≤ l ∧ rm t d l = (r : Int) := by
  unfold rm
  split
  · exact .inr ⟨_, by omega, rfl⟩
  · exact .inl rfl
theorem rm_eq (t : Tr) (d l : Nat) (h : t.lines.length + 2 ≤ l) : rm t (d + 1) l = rms t.kids d (l - (t.lines.length + 2)) := by
  have h1 := cnt_eq t
  have h2 := dep_eq t
  unfold rm rms
  by_cases h3 : deps t.kids ≤ d ∧ cnts t.kids ≤ l - (t.lines.length + 2)
  · rw [if_pos (by omega), if_pos h3]; omega
  · rw [if_neg (by omega), if_neg h3]
theorem rm_zero (t : Tr) (l : Nat) : rm t 0 l = -1 := by
  have := dep_pos t
  unfold rm; rw [if_neg (by omega)]
theorem rm_low (t : Tr) (d l : Nat) (h : l < t.lines.length + 2) : rm t d l = -1 := by
  have h1 := cnt_eq t
  unfold rm; rw [if_neg (by omega)]
end Ln
set_option maxHeartbeats 1000000 in
theorem room_any (d : Nat) : ∀ (t : Ln.Tr) (nm : ByteArray) (A A2 : Option Addr) (n c n2 c2 : Nat) (D L : Nat) (w : World), t.lines.length = n → Kds d w w.heap.size A2 n2 t.kids → Ln.SzT t → D ≤ 100 → L ≤ 100000 →
    Calls Tryd.prog 30 #[.agg #[.string nm, .slice A n c, .slice A2 n2 c2], .int .i64 (D : Int), .int .i64 (L : Int)] w fun e w' => e = .returned (.int .i64 (Ln.rm t D L)) ∧ Gr w w' := by
  induction d using Nat.strongRecOn with
  | _ d ih =>
  intro t nm A A2 n c n2 c2 D L w hn hK hb hD hL
  have HL := Lib.hid hK.len
  obtain ⟨hq1, hq2⟩ := hb.q
  rw [hn] at hq1
  rw [hK.len] at hq2
  have hn2 : n2 ≤ 140737488355328 := by omega
  have hn1 : n + 2 ≤ 140737488355328 := by omega
  have hbk := hb.k
  have cO := fun w => own_any nm A A2 n c n2 c2 w (by omega)
  have hg0 : Gr w (w.alloc (.cells #[.string nm, .slice A n c, .slice A2 n2 c2] 31)) := (Gr.refl w).allocO _
  have hx0 := Bx3.new w (.string nm) (.slice A n c) (.slice A2 n2 c2) 31
  by_cases h0 : D = 0
  · subst h0
    rw [Ln.rm_zero]
    clear hb ih hbk
    go_enter Tryd.func30, Tryd.ntmps30
    go_wp2_with (go_at_call 33; refine (cO _).mono ?_; rintro e w1 ⟨rfl, hg1⟩)
    go_ret
    exact ⟨rfl, hg0.trans hg1⟩
  · have hD0 : ((D : Int) == 0) = false := by rw [beq_eq_false_iff_ne]; omega
    by_cases hlo : L < n + 2
    · rw [Ln.rm_low t D L (by omega)]
      clear hb ih hbk
      have hLn : (L : Int) - ((n : Int) + 2) < 0 := by omega
      go_enter Tryd.func30, Tryd.ntmps30
      go_wp2_with (go_at_call 33; refine (cO _).mono ?_; rintro e w1 ⟨rfl, hg1⟩)
      go_ret
      exact ⟨rfl, hg0.trans hg1⟩
    · obtain ⟨D', rfl⟩ : ∃ x, D = x + 1 := ⟨D - 1, by omega⟩
      obtain ⟨M, hM⟩ : ∃ M, M = L - (n + 2) := ⟨_, rfl⟩
      have hre := Ln.rm_eq t D' L (by omega)
      rw [hn, ← hM] at hre
      rw [hre]
      have hD1 : ((D' : Int) + 1 == 0) = false := by rw [beq_eq_false_iff_ne]; omega
      have hM0 : decide ((M : Int) < 0) = false := by rw [decide_eq_false_iff_not]; omega
      have hMe : (L : Int) - ((n : Int) + 2) = (M : Int) := by omega
      have hML : M ≤ 100000 := by omega
      have HO := Lib.hid (fun k h => Ln.rms_no t.kids D' M k h)
      have hR0 := Ln.rms_nil D' M
      clear hb hre
      obtain ⟨R, hR⟩ : ∃ R, Ln.rms t.kids D' M = R := ⟨_, rfl⟩
      have HR := Lib.hid hR
      rw [hR]
      clear hR
      generalize t.kids = ks at *
      clear hn hM
      go_enter Tryd.func30, Tryd.ntmps30
      go_wp2_with (go_at_call 33; refine (cO _).mono ?_; rintro e w1 ⟨rfl, hg1⟩; have hx1 := hx0.gr hg1; obtain ⟨a0, a1, a2, a3, a4, a5⟩ := hx1)
      go_loopg [2, 22] n2 (fun g v2 v22 wx => ∃ k r : Nat, v22 = .int .i64 (k : Int) ∧ v2 = .int .i64 (r : Int) ∧ k + g = n2 ∧ r ≤ M ∧ Hid (Ln.rms (ks.take k) D' M = (r : Int)) ∧ Gr w1 wx)
      case atStart => exact ⟨0, M, rfl, rfl, by omega, Nat.le_refl _, Lib.hid (by rw [List.take_zero]; exact hR0), Gr.refl _⟩
      case round =>
        obtain ⟨k, r, rfl, rfl, hkg, hrM, HM, hg3⟩ := hrel
        have HG := Lib.hid hkg
        clear hkg
        have hg4 := (hg0.trans hg1).trans hg3
        by_cases hk : k < n2
        · obtain ⟨d', hd', ad, hk', A1, n1, c1, A3, n3, c3, rfl, hbl, hc0, hc1, hc2, hLn3, hKn⟩ := (hK.gr hg4).at_ hk
          have hat := Ln.rms_at ks k D' M r hk' HM.out
          have hg5 : Gr wr (wr.alloc (.cells #[.string ⟨ks[k].name.toArray⟩, .slice A1 n1 c1, .slice A3 n3 c3] 31)) := (Gr.refl wr).allocO _
          have cC := ih d' hd' ks[k] ⟨ks[k].name.toArray⟩ A1 A3 n1 c1 n3 c3 D' r _ hLn3.1 (hKn.gr hg5) (hbk _ (List.getElem_mem hk')) (by omega) (by omega)
          rcases Ln.rm_cases ks[k] D' r with h1 | ⟨q, hq, h1⟩
          · rw [h1] at cC hat
            have HE : Hid (R = -1) := Lib.hid (HR.out.symm.trans (HO.out _ hat))
            clear hat h1 ih HM HO hR0
            generalize (ByteArray.mk ks[k].name.toArray) = nb at *
            go_wp2_with (go_at_call 30; refine cC.mono ?_; rintro e w6 ⟨rfl, hg6⟩)
            go_ret
            exact ⟨by rw [HE.out]; rfl, hg4.trans (hg5.trans hg6)⟩
          · rw [h1] at cC hat
            have HQ := Lib.hid hat
            clear hat h1 ih HM HO hR0
            generalize (ByteArray.mk ks[k].name.toArray) = nb at *
            go_wp2_with (go_at_call 30; refine cC.mono ?_; rintro e w6 ⟨rfl, hg6⟩)
            go_roundg (n2 - (k + 1))
            case measure => have := HG.out; omega
            case rel => exact ⟨k + 1, q, by go_num, rfl, by omega, by omega, HQ, hg3.trans (hg5.trans hg6)⟩
        · obtain rfl : k = n2 := by have := HG.out; omega
          have hm := HM.out
          rw [List.take_of_length_le (by rw [HL.out]; exact Nat.le_refl _), HR.out] at hm
          have HM2 := Lib.hid hm
          clear hm HM
          go_wp2
          go_ret
          exact ⟨by rw [HM2.out]; rfl, hg4⟩
end Go.Proofs.YtbfngdpdgmgfpaaDoor
namespace Go.Proofs.YtbfngdpdgmgfpaaDoor
open Go.RowKit

theorem gr_cell0 {w w' : World} (h : Gr w w') {p : Addr} {v : Value} (hc : w.cell? p = some v) : w'.cell? p = some v := (h.below.cell (World.block_lt_of_cell? _ _ hc)).trans hc
namespace Ln
/- sizes that are looked at -/
def Fl (l : Li) : Prop := Rw l ∧ Sm (l.name.length + l.value.length) l.ps
def FitT (t : Tr) : Prop := AllT Fl (fun t => t.name.length ≤ 140737488355328 ∧ t.lines.length * 56 ≤ 140737488355328 ∧ t.kids.length * 64 ≤ 140737488355328) t
theorem FitT.rw {t : Tr} (h : FitT t) : RwT t := AllT.imp (fun _ h => h.1) (fun _ h => h) h
/- of the lines that are looked at, up to the first that is not valid -/
inductive PC : Tr → Prop
  | mk (t : Tr) (hl : nameB t.name = true → ∀ k (hk : k < t.lines.length), (t.lines.take k).all lnB = true → Calm t.lines[k].ps) (hk : nameB t.name = true → t.lines.all lnB = true → ∀ k (hk : k < t.kids.length), pfs (t.kids.take k) = true → PC t.kids[k]) : PC t
theorem PC.l {t : Tr} (h : PC t) : nameB t.name = true → ∀ k (hk : k < t.lines.length), (t.lines.take k).all lnB = true → Calm t.lines[k].ps := by cases h; assumption
theorem PC.k {t : Tr} (h : PC t) : nameB t.name = true → t.lines.all lnB = true → ∀ k (hk : k < t.kids.length), pfs (t.kids.take k) = true → PC t.kids[k] := by cases h; assumption
theorem PC.of_all {Q : Tr → Prop} {t : Tr} (h : AllT (fun l => Calm l.ps) Q t) : PC t := by
  induction h with
  | mk t hq hl hk ih => exact .mk t (fun _ k hk' _ => hl _ (List.getElem_mem hk')) (fun _ _ k hk' _ => ih _ (List.getElem_mem hk'))
theorem FitT.pc {t : Tr} (h : FitT t) : PC t := PC.of_all (AllT.imp (fun _ h => h.2.calm) (fun _ h => h) h)
theorem pf_name {t : Tr} (h : nameB t.name = false) : pf t = false := by rw [pf_eq, h]; rfl
theorem pf_lines {t : Tr} (h : t.lines.all lnB = false) : pf t = false := by rw [pf_eq, h]; simp
theorem pf_kids {t : Tr} (h : pfs t.kids = false) : pf t = false := by rw [pf_eq, h]; simp
theorem pf_ok {t : Tr} (h1 : nameB t.name = true) (h2 : t.lines.all lnB = true) (h3 : pfs t.kids = true) : pf t = true := by rw [pf_eq, h1, h2, h3]; rfl
theorem allB_take (ls : List Li) (k : Nat) (hk : k < ls.length) : (ls.take (k + 1)).all lnB = ((ls.take k).all lnB && lnB ls[k]) := by
  rw [List.take_succ_eq_append_getElem hk, List.all_append, List.all_cons, List.all_nil, Bool.and_true]
theorem allB_no (ls : List Li) (k : Nat) (h : (ls.take k).all lnB = false) : ls.all lnB = false := by
  have := congrArg (fun x => List.all x lnB) (List.take_append_drop k ls)
  simp only [List.all_append, h, Bool.false_and] at this
  exact this.symm
end Ln
set_option maxHeartbeats 4000000 in
set_option maxRecDepth 100000 in
theorem fparts_any (d : Nat) : ∀ (t : Ln.Tr) (A A2 : Option Addr) (n c n2 c2 : Nat) (w : World), Tab w → Lns w w.heap.size A n t.lines → Kds d w w.heap.size A2 n2 t.kids → Ln.RwT t → Ln.PC t →
    Calls Tryd.prog 31 #[.agg #[.string ⟨t.name.toArray⟩, .slice A n c, .slice A2 n2 c2]] w fun e w' => e = .returned (.bool (Ln.pf t)) ∧ Gr w w' := by
  induction d using Nat.strongRecOn with
  | _ d ih =>
  intro t A A2 n c n2 c2 w hT hLs hK hF hC
  have HL1 := Lib.hid hLs.1
  have HL2 := Lib.hid hK.len
  obtain ⟨_, hz1, hz2⟩ := hF.q
  rw [hLs.1] at hz1
  rw [hK.len] at hz2
  have hn2 : n2 ≤ 140737488355328 := by omega
  have hn1 : n ≤ 140737488355328 := by omega
  have hg0 : Gr w (w.alloc (.cells #[.string ⟨t.name.toArray⟩, .slice A n c, .slice A2 n2 c2] 31)) := (Gr.refl w).allocO _
  have hx0 := Bx3.new w (.string ⟨t.name.toArray⟩) (.slice A n c) (.slice A2 n2 c2) 31
  have cN := fun w => lname_any ⟨t.name.toArray⟩ w
  have e0 : (ByteArray.mk t.name.toArray).data.toList = t.name := rfl
  rw [e0] at cN
  have HBL := Lib.hid (fun h => Ln.pf_lines (t := t) h)
  have HBK := Lib.hid (fun h => Ln.pf_kids (t := t) h)
  have hFl := hF.l
  have hFk := hF.k
  have hCl := hC.l
  have hCk := hC.k
  cases hnm : Ln.nameB t.name
  · rw [Ln.pf_name hnm]
    rw [hnm] at cN
    clear hnm ih HBL HBK hF hFl hFk e0 hCl hCk hC
    generalize (ByteArray.mk t.name.toArray) = nb at *
    go_enter Tryd.func31, Tryd.ntmps31
    go_wp2_with (go_at_call 49; refine (cN _).mono ?_; rintro e w' ⟨rfl, rfl⟩)
    go_ret
    exact ⟨rfl, hg0⟩
  · rw [hnm] at cN
    have HOK := Lib.hid (fun h2 h3 => Ln.pf_ok (t := t) hnm h2 h3)
    have HCl := Lib.hid (hCl hnm)
    have HCk := Lib.hid (hCk hnm)
    clear hnm hF e0 hCl hCk hC
    generalize Ln.pf t = E at *
    generalize (ByteArray.mk t.name.toArray) = nb at *
    generalize t.lines = ls at *
    generalize t.kids = ks at *
    go_enter Tryd.func31, Tryd.ntmps31
    go_wp2_with (go_at_call 49; refine (cN _).mono ?_; rintro e w' ⟨rfl, rfl⟩)
    obtain ⟨W0, hW0⟩ : ∃ W0, (w.alloc (.cells #[.string nb, .slice A n c, .slice A2 n2 c2] 31)) = W0 := ⟨_, rfl⟩
    rw [hW0] at hg0 hx0 ⊢
    go_loopg [14] n (fun g v wx => ∃ k : Nat, v = .int .i64 (k : Int) ∧ k + g = n ∧ Gr W0 wx ∧ Hid ((ls.take k).all Ln.lnB = true))
    case atStart => exact ⟨0, rfl, by omega, Gr.refl _, Lib.hid (by rw [List.take_zero]; rfl)⟩
    case round =>
      obtain ⟨k, rfl, hkg, hg3, HN⟩ := hrel
      have HG := Lib.hid hkg
      clear hkg
      have hg4 := hg0.trans hg3
      by_cases hk : k < n
      · obtain ⟨ad, hk', A', n', c', rfl, hbl, hc0, hc1, hc2, hP, hnc⟩ := (hLs.gr hg4).at_ hk
        have hRw := hFl _ (List.getElem_mem hk')
        have hcm := HCl.out k hk' HN.out
        have HST := Lib.hid (Ln.allB_take ls k hk')
        have HNO := Lib.hid (Ln.allB_no ls (k + 1))
        have hg5 : Gr wr (wr.alloc (.cells #[.string ⟨ls[k].name.toArray⟩, .slice A' n' c', .string ⟨ls[k].value.toArray⟩] 48)) := (Gr.refl wr).allocO _
        have hx5 := Bx3.new wr (.string ⟨ls[k].name.toArray⟩) (.slice A' n' c') (.string ⟨ls[k].value.toArray⟩) 48
        have cF := fun w1 (t1 : Tab w1) (p1 : Pars w1 w1.heap.size A' n' ls[k].ps) => formed_any ⟨ls[k].name.toArray⟩ ⟨ls[k].value.toArray⟩ A' n' c' ls[k].ps w1 t1 p1 hnc hcm hRw.p2' (by rw [size_mk]; exact hRw.value)
        have e1 : (⟨(ByteArray.mk ls[k].name.toArray).data.toList, ls[k].ps, (ByteArray.mk ls[k].value.toArray).data.toList⟩ : Ln.Li) = ls[k] := rfl
        rw [e1] at cF
        have cF := cF _ ((hT.keep hg4).keep hg5) ((hP.keep hg5.below).more hg5.lt)
        have hi := Ln.lnB_iff ls[k]
        have hq : ∀ l : List UInt8, ((ByteArray.mk ls[k].name.toArray).toList == l) = decide (ls[k].name = l) := fun l => by rw [Lib.toList_data, Bool.eq_iff_iff, beq_iff_eq, decide_eq_true_iff]
        have hq1 : ((ByteArray.mk ls[k].name.toArray).toList == [66, 69, 71, 73, 78]) = decide (ls[k].name = Ln.bg) := hq _
        have hq2 : ((ByteArray.mk ls[k].name.toArray).toList == [69, 78, 68]) = decide (ls[k].name = Ln.en) := hq _
        cases hlb : Ln.lnB ls[k]
        · have HE : Hid (E = false) := Lib.hid (HBL.out (HNO.out (by rw [HST.out, hlb]; simp)))
          have hno : ¬ (Ln.formed ls[k] = true ∧ ls[k].name ≠ Ln.bg ∧ ls[k].name ≠ Ln.en) := fun h => by rw [hi.2 h] at hlb; cases hlb
          cases hfm : Ln.formed ls[k]
          · rw [hfm] at cF
            clear hi hq hq1 hq2 e1 hlb hno hfm HST HNO HN HBL HBK HOK ih hRw hcm
            generalize (ByteArray.mk ls[k].name.toArray) = nl at *
            generalize (ByteArray.mk ls[k].value.toArray) = vl at *
            obtain ⟨y0, y1, y2, y3, y4, y5⟩ := hx5
            go_wp2_with (go_at_call 50; refine cF.mono ?_; rintro e w6 ⟨rfl, hg6⟩)
            go_ret
            exact ⟨by rw [HE.out]; rfl, hg4.trans (hg5.trans hg6)⟩
          · rw [hfm] at cF
            by_cases h1 : ls[k].name = Ln.bg
            · rw [decide_eq_true h1] at hq1
              clear hi hq hq2 e1 hlb hno hfm HST HNO HN HBL HBK HOK ih hRw hcm h1
              generalize (ByteArray.mk ls[k].name.toArray) = nl at *
              generalize (ByteArray.mk ls[k].value.toArray) = vl at *
              go_wp2_with (go_at_call 50; refine cF.mono ?_; rintro e w6 ⟨rfl, hg6⟩; obtain ⟨y0, y1, y2, y3, y4, y5⟩ := hx5.gr hg6)
              go_ret
              exact ⟨by rw [HE.out]; rfl, hg4.trans (hg5.trans hg6)⟩
            · have h2 : ls[k].name = Ln.en := Classical.byContradiction fun h2 => hno ⟨hfm, h1, h2⟩
              rw [decide_eq_false h1] at hq1
              rw [decide_eq_true h2] at hq2
              clear hi hq e1 hlb hno hfm HST HNO HN HBL HBK HOK ih hRw hcm h1 h2
              generalize (ByteArray.mk ls[k].name.toArray) = nl at *
              generalize (ByteArray.mk ls[k].value.toArray) = vl at *
              go_wp2_with (go_at_call 50; refine cF.mono ?_; rintro e w6 ⟨rfl, hg6⟩; obtain ⟨y0, y1, y2, y3, y4, y5⟩ := hx5.gr hg6)
              go_ret
              exact ⟨by rw [HE.out]; rfl, hg4.trans (hg5.trans hg6)⟩
        · obtain ⟨h0, h1, h2⟩ := hi.1 hlb
          rw [h0] at cF
          rw [decide_eq_false h1] at hq1
          rw [decide_eq_false h2] at hq2
          have HN2 : Hid ((ls.take (k + 1)).all Ln.lnB = true) := Lib.hid (by rw [HST.out, HN.out, hlb]; rfl)
          clear hi hq e1 hlb HST HNO HN HBL HBK HOK ih hRw hcm h1 h2 h0
          generalize (ByteArray.mk ls[k].name.toArray) = nl at *
          generalize (ByteArray.mk ls[k].value.toArray) = vl at *
          go_wp2_with (go_at_call 50; refine cF.mono ?_; rintro e w6 ⟨rfl, hg6⟩; obtain ⟨y0, y1, y2, y3, y4, y5⟩ := hx5.gr hg6)
          go_roundg (n - (k + 1))
          case measure => have := HG.out; omega
          case rel => exact ⟨k + 1, by go_num, by omega, hg3.trans (hg5.trans hg6), HN2⟩
      · obtain rfl : k = n := by have := HG.out; omega
        have HA := HN.out
        rw [List.take_of_length_le (by rw [HL1.out]; exact Nat.le_refl _)] at HA
        have HA := Lib.hid HA
        clear HN HBL
        have hx3 := hx0.gr hg3
        obtain ⟨a0, a1, a2, a3, a4, a5⟩ := hx3
        go_wp2_with fail
        obtain ⟨w5, hw5⟩ : ∃ w5, wr = w5 := ⟨_, rfl⟩
        have hgA := hg4
        rw [hw5] at hgA
        go_loopg [35] n2 (fun g v wx => ∃ k : Nat, v = .int .i64 (k : Int) ∧ k + g = n2 ∧ Gr w5 wx ∧ Hid (Ln.pfs (ks.take k) = true))
        case atStart => exact ⟨0, rfl, by omega, by rw [hw5]; exact Gr.refl _, Lib.hid (by rw [List.take_zero]; simp [Ln.pfs])⟩
        case round =>
          obtain ⟨k2, rfl, hkg2, hg7, HN⟩ := hrel
          have HG2 := Lib.hid hkg2
          clear hkg2
          have hg8 := hgA.trans hg7
          by_cases hk2 : k2 < n2
          · obtain ⟨d', hd', ad, hk', A1, n1, c1, A3, n3, c3, rfl, hbl, hc0, hc1, hc2, hLn3, hKn⟩ := (hK.gr hg8).at_ hk2
            have HST := Lib.hid (Ln.pfs_take ks k2 hk')
            have HNO := Lib.hid (Ln.pfs_le ks (k2 + 1))
            have hg9 : Gr wr (wr.alloc (.cells #[.string ⟨ks[k2].name.toArray⟩, .slice A1 n1 c1, .slice A3 n3 c3] 31)) := (Gr.refl wr).allocO _
            have cK := ih d' hd' ks[k2] A1 A3 n1 c1 n3 c3 _ ((hT.keep hg8).keep hg9) (hLn3.gr hg9) (hKn.gr hg9) (hFk _ (List.getElem_mem hk')) (HCk.out HA.out k2 hk' HN.out)
            cases hp : Ln.pf ks[k2]
            · rw [hp] at cK
              have HE : Hid (E = false) := Lib.hid (HBK.out (HNO.out (by rw [HST.out, hp]; simp)))
              clear HST HNO HN HBK HOK ih hp
              generalize (ByteArray.mk ks[k2].name.toArray) = nk at *
              go_wp2_with (go_at_call 31; refine cK.mono ?_; rintro e w6 ⟨rfl, hg6⟩)
              go_ret
              exact ⟨by rw [HE.out]; rfl, hg8.trans (hg9.trans hg6)⟩
            · rw [hp] at cK
              have HN2 : Hid (Ln.pfs (ks.take (k2 + 1)) = true) := Lib.hid (by rw [HST.out, HN.out, hp]; rfl)
              clear HST HNO HN HBK HOK ih hp
              generalize (ByteArray.mk ks[k2].name.toArray) = nk at *
              go_wp2_with (go_at_call 31; refine cK.mono ?_; rintro e w6 ⟨rfl, hg6⟩)
              go_roundg (n2 - (k2 + 1))
              case measure => have := HG2.out; omega
              case rel => exact ⟨k2 + 1, by go_num, by omega, hg7.trans (hg9.trans hg6), HN2⟩
          · obtain rfl : k2 = n2 := by have := HG2.out; omega
            have HB2 := HN.out
            rw [List.take_of_length_le (by rw [HL2.out]; exact Nat.le_refl _)] at HB2
            have HE : Hid (E = true) := Lib.hid (HOK.out HA.out HB2)
            clear HN HBK HB2 HOK
            go_wp2
            go_ret
            exact ⟨by rw [HE.out]; rfl, hg8⟩
namespace Ln
theorem fm_room (t : Tr) : fmT t = (decide (0 ≤ rm t 4 300) && pf t) := by
  unfold fmT rm
  by_cases h : dep t ≤ 4 ∧ cnt t ≤ 300
  · rw [if_pos h, decide_eq_true h.1, decide_eq_true h.2]
    simp
  · rw [if_neg h]
    rcases Nat.lt_or_ge 4 (dep t) with h1 | h1
    · rw [decide_eq_false (by omega : ¬ dep t ≤ 4)]; simp
    · rw [decide_eq_false (by omega : ¬ cnt t ≤ 300)]; simp
end Ln
set_option maxHeartbeats 1000000 in
theorem tformed_any (d : Nat) (t : Ln.Tr) (A A2 : Option Addr) (n c n2 c2 : Nat) (w : World) (hT : Tab w) (hLs : Lns w w.heap.size A n t.lines) (hK : Kds d w w.heap.size A2 n2 t.kids) (hF : Ln.RwT t) (hC : Ln.PC t) :
    Calls Tryd.prog 12 #[.agg #[.string ⟨t.name.toArray⟩, .slice A n c, .slice A2 n2 c2]] w fun e w' => e = .returned (.bool (Ln.fmT t)) ∧ Gr w w' := by
  have hg0 : Gr w (w.alloc (.cells #[.string ⟨t.name.toArray⟩, .slice A n c, .slice A2 n2 c2] 31)) := (Gr.refl w).allocO _
  have hx0 := Bx3.new w (.string ⟨t.name.toArray⟩) (.slice A n c) (.slice A2 n2 c2) 31
  have cR := room_any d t ⟨t.name.toArray⟩ A A2 n c n2 c2 4 300 _ hLs.1 (hK.gr hg0) hF.sz (by omega) (by omega)
  have cP := fun w1 (h1 : Gr w w1) => fparts_any d t A A2 n c n2 c2 w1 (hT.keep h1) (hLs.gr h1) (hK.gr h1) hF hC
  rw [Ln.fm_room]
  rcases Ln.rm_cases t 4 300 with h1 | ⟨r, _, h1⟩
  · rw [h1] at cR ⊢
    clear h1 cP hF hLs hK
    generalize Ln.pf t = p at *
    generalize (ByteArray.mk t.name.toArray) = nb at *
    go_enter Tryd.func12, Tryd.ntmps12
    go_wp2_with (go_at_call 30; refine cR.mono ?_; rintro e w1 ⟨rfl, hg1⟩; obtain ⟨a0, a1, a2, a3, a4, a5⟩ := hx0.gr hg1)
    go_ret
    exact ⟨rfl, hg0.trans hg1⟩
  · rw [h1] at cR ⊢
    clear h1 hF hLs hK
    generalize Ln.pf t = p at *
    generalize (ByteArray.mk t.name.toArray) = nb at *
    go_enter Tryd.func12, Tryd.ntmps12
    go_wp2_with (first
      | (go_at_call 30; refine cR.mono ?_; rintro e w1 ⟨rfl, hg1⟩; obtain ⟨a0, a1, a2, a3, a4, a5⟩ := hx0.gr hg1)
      | (go_at_call 31; refine (cP _ (hg0.trans hg1)).mono ?_; rintro e w2 ⟨rfl, hg2⟩))
    go_ret
    exact ⟨by simp, (hg0.trans hg1).trans hg2⟩
end Go.Proofs.YtbfngdpdgmgfpaaDoor
