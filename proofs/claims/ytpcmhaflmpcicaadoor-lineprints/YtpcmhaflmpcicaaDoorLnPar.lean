/- What a reader's param returns. -/
import Derived.Test.YtpcmhaflmpcicaaDoorLnVal
import Derived.Test.YtpcmhaflmpcicaaDoorLnMem
namespace Go.Proofs.YtpcmhaflmpcicaaDoor
open Go.RowKit

/- a box of two cells that may be written -/
structure Bx2 (w : World) (b : Nat) (x y : Value) : Prop where
  c0 : w.cell? ⟨b, 0, none⟩ = some x
  c1 : w.cell? ⟨b, 1, none⟩ = some y
  f0 : w.frozen? ⟨b, 0, none⟩ = false
  f1 : w.frozen? ⟨b, 1, none⟩ = false
theorem Bx2.lt {w : World} {b : Nat} {x y : Value} (h : Bx2 w b x y) : b < w.heap.size := World.block_lt_of_cell? _ _ h.c0
theorem Bx2.new (w : World) (x y : Value) (t : TypeId) : Bx2 (w.alloc (.cells #[x, y] t)) w.heap.size x y :=
  ⟨by simp, by simp, by rw [frozen?_alloc_cells]; simp [World.frozen?], by rw [frozen?_alloc_cells]; simp [World.frozen?]⟩
theorem Bx2.block {w w' : World} {b : Nat} {x y : Value} (h : Bx2 w b x y) (hb : w'.heap[b]? = w.heap[b]?) : Bx2 w' b x y :=
  ⟨(World.cell?_of_block (w := w) hb).trans h.c0, (World.cell?_of_block (w := w) hb).trans h.c1, (World.frozen?_of_block (w := w) hb).trans h.f0, (World.frozen?_of_block (w := w) hb).trans h.f1⟩
theorem Bx2.gr {w w' : World} {b : Nat} {x y : Value} (h : Bx2 w b x y) (hg : Gr w w') : Bx2 w' b x y := h.block (hg.below.block _ h.lt)
theorem Bx2.mv {w w' : World} {b k : Nat} {x y : Value} (h : Bx2 w b x y) (hg : Mv k w w') (hk : b ≠ k) : Bx2 w' b x y := h.block (hg.block _ h.lt (fun e => hk (by injection e)))
theorem Bx2.below {w w' : World} {b B : Nat} {x y : Value} (h : Bx2 w b x y) (hg : Below B w w') (hb : b < B) : Bx2 w' b x y := h.block (hg.block _ hb)
theorem OwnV.mv {w w' : World} {B k : Nat} {e : TypeId} {A : Option Addr} {n c : Nat} {xs : List Value} (h : OwnV w B e A n c xs) (hg : Mv k w w') (hk : k < B) : OwnV w' B e A n c xs := by
  refine World.ownsRow.kept h hg ?_
  rcases h.2 with ⟨hn, _⟩ | ⟨g, cap, cur, hv, hb, _⟩
  · left; injection hn with h1; subst h1; rfl
  · right
    rw [hv]
    intro e1
    have : g = k := by simpa [Value.ownBlock] using e1
    omega
theorem Strs.fresh {w : World} {B : Nat} {A : Option Addr} {n c : Nat} {ls : List (List UInt8)} (h : OwnV w B 9 A n c (sc ls)) : 0 < n → ∀ ad, A = some ad → B ≤ ad.block := by
  intro hn ad ha
  obtain ⟨g, rfl, hb, _⟩ := h.cells hn
  injection ha with ha
  subst ha; exact hb
/- append(out, text), the text laid in a new block first -/
theorem ap_str {ops : Array Oper} {rest : List Oper} {o : Oper} {a : Act} {Q : Exit → Act → World → Prop} (w : World) (hgd : o.guard = none) (sl x : Operand)
    (ho : o.op = .call { callee := .builtin .append, args := #[sl, x], argTypes := #[44, 44] })
    (B : Nat) (A : Option Addr) (n c : Nat) (ls : List (List UInt8)) (hs : a.eval sl = .slice A n c) (hown : OwnV w B 9 A n c (sc ls)) (t : List UInt8) (hx : a.eval x = .slice (some ⟨w.heap.size, 0, none⟩) 1 1)
    (hlen : n + 1 ≤ 1000000) (hB : B ≤ w.heap.size)
    (h : ∀ A' c' w', OwnV w' B 9 A' (n + 1) c' (sc (ls ++ [t])) → Below B w w' → wpList Tryd.prog ops Q rest (a.put o.dst (.slice A' (n + 1) c')) w') : wpList Tryd.prog ops Q (o :: rest) a (w.alloc (.cells #[.string ⟨t.toArray⟩] 9)) := by
  refine ap_lit w hgd sl x 44 9 (.string ⟨#[]⟩) 16 Tryd.underlying44 info_str rfl (by omega) ho B A n c (sc ls) [.string ⟨t.toArray⟩] hs hown 1 1 hx rfl (by simp [Value.oneCell']) hlen hB ?_
  intro A' c' w' h1 h2
  refine h A' c' w' ?_ h2
  rw [sc_append]
  exact h1
namespace Ln
theorem pa_noname {r : List UInt8} {before : List (List UInt8)} (h : (nm 60 r).1 = []) : pa r before = none := by unfold pa; rw [if_pos h]
theorem pa_noeq {r : List UInt8} {before : List (List UInt8)} (h : (nm 60 r).2.head? ≠ some 61) : pa r before = none := by
  unfold pa; split
  · rfl
  · rfl
theorem pa_many {r : List UInt8} {before : List (List UInt8)} (h : before.length = 60 ∨ (nm 60 r).1 ∈ before) : pa r before = none := by
  unfold pa; split
  · rfl
  · split
    · rfl
    · rfl
theorem pa_vals {r : List UInt8} {before : List (List UInt8)} (h1 : (nm 60 r).1 ≠ []) (h2 : (nm 60 r).2.head? = some 61) (h3 : before.length ≠ 60) (h4 : (nm 60 r).1 ∉ before) :
    pa r before = (vs (nm 60 r).2.tail []).map fun x => (((nm 60 r).1, x.1), x.2) := by
  unfold pa; rw [if_neg h1, if_neg (by simp [h2]), if_neg (by simp [h3, h4])]
end Ln
/- what param leaves behind: a parameter, or an error -/
def PaPost (b : Nat) (s : ByteArray) (i : Nat) (names : List (List UInt8)) (w : World) (e : Ending) (w' : World) : Prop :=
  (∃ p rest A n c j, Ln.pa (s.data.toList.drop i) names = some (p, rest) ∧ e = .returned (.tuple #[.agg #[.string ⟨p.1.toArray⟩, .slice A n c], .int .i64 0]) ∧ Mv b w w' ∧ RB w' b s j ∧ j ≤ s.size ∧ s.data.toList.drop j = rest ∧ Strs w' w'.heap.size A n p.2 ∧ (0 < n → ∀ ad, A = some ad → w.heap.size ≤ ad.block)) ∨
  (Ln.pa (s.data.toList.drop i) names = none ∧ ∃ E j, e = .returned (.tuple #[.agg #[.string ⟨#[]⟩, .slice none 0 0], .int .i64 E]) ∧ (E != 0) = true ∧ Mv b w w' ∧ RB w' b s j)
/- what name leaves behind -/
def NmPost (b : Nat) (s : ByteArray) (i : Nat) (N : List UInt8 × List UInt8) (B : Bool) (w : World) (e : Ending) (w' : World) : Prop :=
  e = .returned (.tuple #[.string ⟨N.1.toArray⟩, .bool B]) ∧ Mv b w w' ∧ ∃ j, RB w' b s j ∧ i ≤ j ∧ j ≤ s.size ∧ s.data.toList.drop j = N.2
theorem name_yes (b : Nat) (s : ByteArray) (i : Nat) (w : World) (h : RB w b s i) (hi : i ≤ s.size) (hs : s.size ≤ 400000) (hn : (Ln.nm 60 (s.data.toList.drop i)).1 ≠ []) :
    Calls Tryd.prog 41 #[.pointer (some ⟨b, 0, none⟩)] w (NmPost b s i (Ln.nm 60 (s.data.toList.drop i)) true w) := by
  have := name_any b s i w h hi hs
  rw [decide_eq_true (List.length_pos_iff.2 hn)] at this
  exact this
theorem name_no (b : Nat) (s : ByteArray) (i : Nat) (w : World) (h : RB w b s i) (hi : i ≤ s.size) (hs : s.size ≤ 400000) (hn : (Ln.nm 60 (s.data.toList.drop i)).1 = []) :
    Calls Tryd.prog 41 #[.pointer (some ⟨b, 0, none⟩)] w (NmPost b s i (Ln.nm 60 (s.data.toList.drop i)) false w) := by
  have := name_any b s i w h hi hs
  rw [decide_eq_false (by rw [hn]; simp)] at this
  exact this
theorem pa_err {b : Nat} {s : ByteArray} {i : Nat} {names : List (List UInt8)} {w w' : World} (h : Ln.pa (s.data.toList.drop i) names = none) (E : Int) (hE : (E != 0) = true) (hm : Mv b w w') {j : Nat} (hr : RB w' b s j) :
    PaPost b s i names w (.returned (.tuple #[.agg #[.string ⟨#[]⟩, .slice none 0 0], .int .i64 E])) w' := .inr ⟨h, E, j, rfl, hE, hm, hr⟩
theorem Bx2.set2 {w : World} {b : Nat} {x y : Value} (h : Bx2 w b x y) (u v : Value) :
    ((w.setCell ⟨b, 0, none⟩ u).setCell ⟨b, 1, none⟩ v).cell? ⟨b, 0, none⟩ = some u ∧ ((w.setCell ⟨b, 0, none⟩ u).setCell ⟨b, 1, none⟩ v).cell? ⟨b, 1, none⟩ = some v := by
  refine ⟨?_, ?_⟩
  · rw [World.cell?_setCell_other (h := by simp)]; exact World.cell?_setCell_same _ _ _ h.c0
  · refine World.cell?_setCell_same _ _ _ (u := y) ?_; rw [World.cell?_setCell_other (h := by simp)]; exact h.c1
theorem below_set2 {w : World} {b B : Nat} (hb : B ≤ b) (u v : Value) : Below B w ((w.setCell ⟨b, 0, none⟩ u).setCell ⟨b, 1, none⟩ v) := ((Below.refl B w).setCell (p := ⟨b, 0, none⟩) hb u).setCell (p := ⟨b, 1, none⟩) hb v
theorem own_set2 {w : World} {b B : Nat} {e : TypeId} {A : Option Addr} {n c : Nat} {xs : List Value} (h : OwnV w B e A n c xs) (hb : b < B) (u v : Value) : OwnV ((w.setCell ⟨b, 0, none⟩ u).setCell ⟨b, 1, none⟩ v) B e A n c xs :=
  ownsRow_setCell_below (ownsRow_setCell_below h (a := ⟨b, 0, none⟩) hb u) (a := ⟨b, 1, none⟩) hb v
theorem Bx2.box {w : World} {b k : Nat} {x y : Value} (h : Bx2 w b x y) (hk : b ≠ k) (v : Value) : Bx2 (w.setCell ⟨k, 1, none⟩ v) b x y := h.mv (Mv.set k w 1 v) hk
set_option maxHeartbeats 4000000 in
set_option maxRecDepth 100000 in
theorem param_noname (b : Nat) (s : ByteArray) (i : Nat) (A0 : Option Addr) (n0 c0 : Nat) (names : List (List UInt8)) (w : World) (h : RB w b s i) (hi : i ≤ s.size) (hs : s.size ≤ 400000)
    (hx : (Ln.nm 60 (s.data.toList.drop i)).1 = []) :
    Calls Tryd.prog 43 #[.pointer (some ⟨b, 0, none⟩), .slice A0 n0 c0] w (PaPost b s i names w) := by
  have HP := Lib.hid (Ln.pa_noname (before := names) hx)
  have hbl := h.lt
  have hg0 : Gr w (w.alloc (.cells #[.string ⟨#[]⟩, .slice none 0 0] 49)) := (Gr.refl w).allocO _
  have hr0 := h.keep hg0
  have cN := name_no b s i _ hr0 hi hs hx
  have hx4 := Bx2.new w (.string ⟨#[]⟩) (.slice none 0 0) 49
  obtain ⟨c1, c2, c3⟩ := hr0
  clear hx
  generalize Ln.nm 60 (s.data.toList.drop i) = N at *
  go_enter Tryd.func43, Tryd.ntmps43
  go_wp2_with fail
  refine cN.mono ?_
  rintro e w1 ⟨rfl, hm1, j, hr1, hij, hj, hd⟩
  have hx1 := hx4.mv hm1 (by omega)
  have hm2 := (hg0.mv b).trans hm1
  clear c1 c2 c3 hx4
  have HX := Lib.hid hx1
  obtain ⟨x0, x1, f0, f1⟩ := hx1
  go_wp2
  obtain ⟨y0, y1⟩ := HX.out.set2 (.string ⟨#[]⟩) (.slice none 0 0)
  have hbw := below_set2 (w := w1) (Nat.le_refl w.heap.size) (.string ⟨#[]⟩) (.slice none 0 0)
  generalize World.setCell _ _ _ = W at *
  exact bodyPost_ret (v := .tuple #[.agg #[.string ⟨#[]⟩, .slice none 0 0], .int .i64 5]) (by simp [results, Tryd.results43, go_sem, y0, y1]) rfl (pa_err HP.out 5 rfl (hm2.below hbw) (hr1.below hbw hbl))
set_option maxHeartbeats 4000000 in
set_option maxRecDepth 100000 in
theorem param_noeq (b : Nat) (s : ByteArray) (i : Nat) (A0 : Option Addr) (n0 c0 : Nat) (names : List (List UInt8)) (w : World) (h : RB w b s i) (hi : i ≤ s.size) (hs : s.size ≤ 400000)
    (hn : (Ln.nm 60 (s.data.toList.drop i)).1 ≠ []) (hx : (Ln.nm 60 (s.data.toList.drop i)).2.head? ≠ some 61) :
    Calls Tryd.prog 43 #[.pointer (some ⟨b, 0, none⟩), .slice A0 n0 c0] w (PaPost b s i names w) := by
  have HP := Lib.hid (Ln.pa_noeq (before := names) hx)
  have hbl := h.lt
  have hg0 : Gr w (w.alloc (.cells #[.string ⟨#[]⟩, .slice none 0 0] 49)) := (Gr.refl w).allocO _
  have hr0 := h.keep hg0
  have cN := name_yes b s i _ hr0 hi hs hn
  have hx4 := Bx2.new w (.string ⟨#[]⟩) (.slice none 0 0) 49
  obtain ⟨c1, c2, c3⟩ := hr0
  have HX0 := Lib.hid hx
  clear hx hn
  generalize Ln.nm 60 (s.data.toList.drop i) = N at *
  go_enter Tryd.func43, Tryd.ntmps43
  go_wp2_with fail
  refine cN.mono ?_
  rintro e w1 ⟨rfl, hm1, j, hr1, hij, hj, hd⟩
  have cT := take_f b s j 61 61 rfl w1 hr1 hj (by rw [hd]; exact HX0.out)
  have hx1 := hx4.mv hm1 (by omega)
  have hm2 := (hg0.mv b).trans hm1
  clear c1 c2 c3 hx4 hd
  go_wp2_with fail
  refine cT.mono ?_
  rintro e w2 ⟨rfl, hg2⟩
  have hx2 := hx1.gr hg2
  have hr2 := hr1.keep hg2
  have hm3 := hm2.trans (hg2.mv b)
  clear hx1 hr1 hm2
  have HX := Lib.hid hx2
  obtain ⟨x0, x1, f0, f1⟩ := hx2
  go_wp2
  obtain ⟨y0, y1⟩ := HX.out.set2 (.string ⟨#[]⟩) (.slice none 0 0)
  have hbw := below_set2 (w := w2) (Nat.le_refl w.heap.size) (.string ⟨#[]⟩) (.slice none 0 0)
  generalize World.setCell _ _ _ = W at *
  exact bodyPost_ret (v := .tuple #[.agg #[.string ⟨#[]⟩, .slice none 0 0], .int .i64 5]) (by simp [results, Tryd.results43, go_sem, y0, y1]) rfl (pa_err HP.out 5 rfl (hm3.below hbw) (hr2.below hbw hbl))
set_option maxHeartbeats 4000000 in
set_option maxRecDepth 100000 in
theorem param_full (b : Nat) (s : ByteArray) (i : Nat) (A0 : Option Addr) (n0 c0 : Nat) (ps : List Ln.Par) (w : World) (h : RB w b s i) (hi : i ≤ s.size) (hs : s.size ≤ 400000) (hl : ps.length = n0)
    (hn : (Ln.nm 60 (s.data.toList.drop i)).1 ≠ []) (h61 : (Ln.nm 60 (s.data.toList.drop i)).2.head? = some 61) (hx : n0 = 60) :
    Calls Tryd.prog 43 #[.pointer (some ⟨b, 0, none⟩), .slice A0 n0 c0] w (PaPost b s i (ps.map Prod.fst) w) := by
  have HP := Lib.hid (Ln.pa_many (r := s.data.toList.drop i) (before := ps.map Prod.fst) (.inl (by rw [List.length_map, hl, hx])))
  have hbl := h.lt
  have hg0 : Gr w (w.alloc (.cells #[.string ⟨#[]⟩, .slice none 0 0] 49)) := (Gr.refl w).allocO _
  have hr0 := h.keep hg0
  have cN := name_yes b s i _ hr0 hi hs hn
  have hx4 := Bx2.new w (.string ⟨#[]⟩) (.slice none 0 0) 49
  obtain ⟨c1, c2, c3⟩ := hr0
  have H61 := Lib.hid h61
  have hq60 : ((n0 : Int) == 60) = true := by rw [beq_iff_eq]; omega
  clear h61 hn hl hx
  generalize Ln.nm 60 (s.data.toList.drop i) = N at *
  go_enter Tryd.func43, Tryd.ntmps43
  go_wp2_with fail
  refine cN.mono ?_
  rintro e w1 ⟨rfl, hm1, j, hr1, hij, hj, hd⟩
  have hd61 : (s.data.toList.drop j).head? = some 61 := by rw [hd]; exact H61.out
  have hjl := hd_lt hd61
  have cT := take_t b s j 61 61 rfl w1 hr1 hs hd61
  have hx1 := hx4.mv hm1 (by omega)
  have hm2 := (hg0.mv b).trans hm1
  have HD := Lib.hid hd
  clear c1 c2 c3 hx4 hd hd61
  go_wp2_with fail
  refine cT.mono ?_
  rintro e w2 ⟨rfl, hmt, hr2⟩
  have hx2 := hx1.mv hmt (by omega)
  have hm3 := hm2.trans hmt
  clear hx1 hr1 hm2
  have hr4 := hr2.set i
  have hx4 := hx2.box (k := b) (by omega) (.int .i64 (i : Int))
  have hm4 := hm3.trans (Mv.set b w2 1 (.int .i64 (i : Int)))
  have HX := Lib.hid hx4
  obtain ⟨z0, z1, z2⟩ := hr2
  obtain ⟨x0, x1, f0, f1⟩ := hx4
  go_wp2
  obtain ⟨y0, y1⟩ := HX.out.set2 (.string ⟨#[]⟩) (.slice none 0 0)
  have hbw := below_set2 (w := (w2.setCell ⟨b, 1, none⟩ (.int .i64 (i : Int)))) (Nat.le_refl w.heap.size) (.string ⟨#[]⟩) (.slice none 0 0)
  generalize World.setCell (World.setCell (World.setCell _ _ _) _ _) _ _ = W at *
  exact bodyPost_ret (v := .tuple #[.agg #[.string ⟨#[]⟩, .slice none 0 0], .int .i64 9]) (by simp [results, Tryd.results43, go_sem, y0, y1]) rfl (pa_err HP.out 9 rfl (hm4.below hbw) (hr4.below hbw hbl))
set_option maxHeartbeats 4000000 in
set_option maxRecDepth 100000 in
theorem param_twice (b : Nat) (s : ByteArray) (i : Nat) (A0 : Option Addr) (n0 c0 : Nat) (ps : List Ln.Par) (w : World) (h : RB w b s i) (hi : i ≤ s.size) (hs : s.size ≤ 400000) (hP : ∀ w', Mv b w w' → Pars w' w'.heap.size A0 n0 ps) (hn0 : n0 < 60)
    (hn : (Ln.nm 60 (s.data.toList.drop i)).1 ≠ []) (h61 : (Ln.nm 60 (s.data.toList.drop i)).2.head? = some 61) (hx : (Ln.nm 60 (s.data.toList.drop i)).1 ∈ ps.map Prod.fst) :
    Calls Tryd.prog 43 #[.pointer (some ⟨b, 0, none⟩), .slice A0 n0 c0] w (PaPost b s i (ps.map Prod.fst) w) := by
  have HP := Lib.hid (Ln.pa_many (r := s.data.toList.drop i) (before := ps.map Prod.fst) (.inr hx))
  have hbl := h.lt
  have hg0 : Gr w (w.alloc (.cells #[.string ⟨#[]⟩, .slice none 0 0] 49)) := (Gr.refl w).allocO _
  have hr0 := h.keep hg0
  have cN := name_yes b s i _ hr0 hi hs hn
  have hx4 := Bx2.new w (.string ⟨#[]⟩) (.slice none 0 0) 49
  obtain ⟨c1, c2, c3⟩ := hr0
  have H61 := Lib.hid h61
  have hq60 : ((n0 : Int) == 60) = false := by rw [beq_eq_false_iff_ne]; omega
  have HI := Lib.hid hx
  clear h61 hn hx
  generalize Ln.nm 60 (s.data.toList.drop i) = N at *
  go_enter Tryd.func43, Tryd.ntmps43
  go_wp2_with fail
  refine cN.mono ?_
  rintro e w1 ⟨rfl, hm1, j, hr1, hij, hj, hd⟩
  have hd61 : (s.data.toList.drop j).head? = some 61 := by rw [hd]; exact H61.out
  have hjl := hd_lt hd61
  have cT := take_t b s j 61 61 rfl w1 hr1 hs hd61
  have hx1 := hx4.mv hm1 (by omega)
  have hm2 := (hg0.mv b).trans hm1
  have HD := Lib.hid hd
  clear c1 c2 c3 hx4 hd hd61
  go_wp2_with fail
  refine cT.mono ?_
  rintro e w2 ⟨rfl, hmt, hr2⟩
  have hx2 := hx1.mv hmt (by omega)
  have hm3 := hm2.trans hmt
  clear hx1 hr1 hm2
  have cI := (index_any ⟨N.1.toArray⟩ A0 n0 c0 ps w2 (hP w2 hm3) (by omega)).mono (R' := fun e w' => ∃ v : Int, e = .returned (.int .i64 v) ∧ 0 ≤ v ∧ Gr w2 w') (fun e w' ⟨v, h1, h2, h3⟩ => ⟨v, h1, by
    have := h2.neg
    rw [show (ps.map Prod.fst).contains (ByteArray.mk N.1.toArray).data.toList = true by simpa using HI.out] at this
    exact of_decide_eq_true this, h3⟩)
  go_wp2_with fail
  refine cI.mono ?_
  rintro e w3 ⟨v, rfl, hv, hg3⟩
  have hr3 := hr2.keep hg3
  have hx3 := hx2.gr hg3
  have hr4 := hr3.set i
  have hx4 := hx3.box (k := b) (by omega) (.int .i64 (i : Int))
  have hm4 := (hm3.trans (hg3.mv b)).trans (Mv.set b w3 1 (.int .i64 (i : Int)))
  have HX := Lib.hid hx4
  obtain ⟨z0, z1, z2⟩ := hr3
  obtain ⟨x0, x1, f0, f1⟩ := hx4
  go_wp2
  obtain ⟨y0, y1⟩ := HX.out.set2 (.string ⟨#[]⟩) (.slice none 0 0)
  have hbw := below_set2 (w := (w3.setCell ⟨b, 1, none⟩ (.int .i64 (i : Int)))) (Nat.le_refl w.heap.size) (.string ⟨#[]⟩) (.slice none 0 0)
  generalize World.setCell (World.setCell (World.setCell _ _ _) _ _) _ _ = W at *
  exact bodyPost_ret (v := .tuple #[.agg #[.string ⟨#[]⟩, .slice none 0 0], .int .i64 9]) (by simp [results, Tryd.results43, go_sem, y0, y1]) rfl (pa_err HP.out 9 rfl (hm4.below hbw) (hr4.below hbw hbl))
end Go.Proofs.YtpcmhaflmpcicaaDoor
