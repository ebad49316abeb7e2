/- The texts TrCopy, TrFind, one behind the other. -/
import Derived.Test.YtbfngdpdgmgfpaaDoorMG
import Derived.Test.YtbfngdpdgmgfpaaDoorMD
namespace Go.Proofs.YtbfngdpdgmgfpaaDoor
open Go.RowKit

section
variable {ops : Array Oper} {Q : Exit → Act → World → Prop} {S : World → Prop} {k : Nat}
/- two operations that may come up -/
theorem Wk.two {i j : Nat} {oi oj : Oper} {m : Nat} {listed : Array Bool} {a : Act} {w : World} (hi : ops[i]? = some oi) (hj : ops[j]? = some oj) (hr : Region.ready .any ops listed = [i, j])
    (h1 : ∀ K : Act → World → Prop, (∀ a' w', (i ≠ k → S w') → Wk ops Q S k m (listed.setIfInBounds i true) a' w' → K a' w') → if Region.wanted oi (yielded ops a.tmps) = true then Oper.wp Tryd.prog oi a w K Q else K (a.put oi.dst undef) w)
    (h2 : ∀ K : Act → World → Prop, (∀ a' w', (j ≠ k → S w') → Wk ops Q S k m (listed.setIfInBounds j true) a' w' → K a' w') → if Region.wanted oj (yielded ops a.tmps) = true then Oper.wp Tryd.prog oj a w K Q else K (a.put oj.dst undef) w) : Wk ops Q S k (m + 1) listed a w := by
  refine ⟨fun e => (by rw [hr] at e; cases e), fun x hx => ?_⟩
  rw [hr] at hx
  rcases List.mem_cons.1 hx with rfl | hx
  · exact wpOp_step hi (fun K hK => h1 K (fun a' w' h1 h2 => hK a' w' ⟨h1, h2⟩))
  · obtain rfl := List.mem_singleton.1 hx
    exact wpOp_step hj (fun K hK => h2 K (fun a' w' h1 h2 => hK a' w' ⟨h1, h2⟩))
end
theorem Bx3.all {w : World} {b : Nat} {x y z : Value} (h : Bx3 w b x y z) (u v t : Value) : Bx3 (((w.setCell ⟨b, 0, none⟩ u).setCell ⟨b, 1, none⟩ v).setCell ⟨b, 2, none⟩ t) b u v t := by
  obtain ⟨h0, h1, h2⟩ := h.set3 u v t
  exact ⟨h0, h1, h2, by rw [World.frozen?_setCell, World.frozen?_setCell, World.frozen?_setCell]; exact h.f0, by rw [World.frozen?_setCell, World.frozen?_setCell, World.frozen?_setCell]; exact h.f1, by rw [World.frozen?_setCell, World.frozen?_setCell, World.frozen?_setCell]; exact h.f2⟩
theorem gr_all {w0 w : World} {b : Nat} (hb : w0.heap.size ≤ b) (hg : Gr w0 w) (u v t : Value) : Gr w0 (((w.setCell ⟨b, 0, none⟩ u).setCell ⟨b, 1, none⟩ v).setCell ⟨b, 2, none⟩ t) :=
  ⟨(((hg.below.setCell (p := ⟨b, 0, none⟩) hb u).setCell (p := ⟨b, 1, none⟩) hb v).setCell (p := ⟨b, 2, none⟩) hb t)⟩
theorem Bx2.set1 {w : World} {b : Nat} {x y : Value} (h : Bx2 w b x y) (u : Value) : Bx2 (w.setCell ⟨b, 1, none⟩ u) b x u :=
  ⟨by rw [World.cell?_setCell_other (h := by simp)]; exact h.c0, World.cell?_setCell_same _ _ _ h.c1, by rw [World.frozen?_setCell]; exact h.f0, by rw [World.frozen?_setCell]; exact h.f1⟩
/- append(texts, text) at a step of a region -/
theorem st_str {ops : Array Oper} {o : Oper} {a : Act} {K : Act → World → Prop} {Q : Exit → Act → World → Prop} {E : Prop} (w : World) (hgd : o.guard = none) (sl x : Operand)
    (ho : o.op = .call { callee := .builtin .append, args := #[sl, x], argTypes := #[60, 60] })
    (B : Nat) (A : Option Addr) (n c : Nat) (xs : List Value) (hs : a.eval sl = .slice A n c) (hown : OwnV w B 9 A n c xs) (s : ByteArray) (hx : a.eval x = .slice (some ⟨w.heap.size, 0, none⟩) 1 1) (hlen : (n + 1) * 16 ≤ 140737488355328) (hB : B ≤ w.heap.size)
    (h : ∀ g c' w', OwnV w' B 9 (some ⟨g, 0, none⟩) (n + 1) c' (xs ++ [.string s]) → Below B w w' → K (a.put o.dst (.slice (some ⟨g, 0, none⟩) (n + 1) c')) w') :
    if Region.wanted o (yielded ops a.tmps) = true then Oper.wp Tryd.prog o a (w.alloc (.cells #[.string s] 9)) K Q else E := by
  obtain ⟨i0, hi, hz0, hz1, hz2⟩ := info_parts info_str
  have hsz : (w.alloc (.cells #[.string s] 9)).heap.size = w.heap.size + 1 := by simp
  have hown2 : (w.alloc (.cells #[.string s] 9)).ownsRow B 9 1 (.slice A n c) n xs := World.ownsRow.alloc hown _
  refine step_append_lies _ hgd sl x 60 ho B 9 i0 _ 1 16 Tryd.underlying60 hi hz0 hz1 hz2 rfl (by omega) (.slice A n c) n xs hs hown2 ⟨w.heap.size, 0, none⟩ 1 1 [.string s] hx rfl
    (World.news_of_block (cs := #[.string s]) (t := 9) (fr := (0, 0)) (heap_alloc_new w _)) (by simp [Value.oneCell']) (by omega) (by unfold maxLen; omega) (by omega) (by omega) (w.heap.size + 1) (by simp) ?_
  intro g cap w' g1 g2 g3 _
  have hgr : Gr w (w.alloc (.cells #[.string s] 9)) := (Gr.refl w).allocO _
  exact h g cap w' g1 ((hgr.low hB).trans (grown_low g2 (by omega) (fun k hk => (hown.own k hk).1)))
/- append(out, parameter): what all else does -/
theorem st_parG {ops : Array Oper} {o : Oper} {a : Act} {K : Act → World → Prop} {Q : Exit → Act → World → Prop} {E : Prop} (w : World) (hgd : o.guard = none) (sl x : Operand) (t e : TypeId)
    (ht : Tryd.prog.underlying t = some (.slice e)) (hinfo : (Tryd.prog.info? e).map (fun i => (i.zero, i.size, i.bytes)) = some (some (.agg #[.string ⟨#[]⟩, .slice none 0 0]), 2, 40))
    (ho : o.op = .call { callee := .builtin .append, args := #[sl, x], argTypes := #[t, t] })
    (B : Nat) (P : Nat → Prop) (A : Option Addr) (n c : Nat) (ps : List Ln.Par) (hs : a.eval sl = .slice A n c) (hrow : PRow w B P e A n c ps) (p : Ln.Par) (Av : Option Addr) (nv cv : Nat) (hS : Strs w w.heap.size Av nv p.2) (hv : 0 < nv → ∀ ad, Av = some ad → P ad.block ∧ (Value.slice A n c).ownBlock ≠ some ad.block)
    (hx : a.eval x = .slice (some ⟨w.heap.size, 0, none⟩) 1 1) (hlen : (n + 1) * 40 ≤ 140737488355328) (hB : B ≤ w.heap.size)
    (h : ∀ A' c' w', PRow w' B P e A' (n + 1) c' (ps ++ [p]) → w.grownBy w' (Value.slice A n c).ownBlock → K (a.put o.dst (.slice A' (n + 1) c')) w') :
    if Region.wanted o (yielded ops a.tmps) = true then Oper.wp Tryd.prog o a (w.alloc (.cells #[.string ⟨p.1.toArray⟩, .slice Av nv cv] e)) K Q else E := by
  obtain ⟨i0, hi, hz0, hz1, hz2⟩ := info_parts hinfo
  have ho2 := hrow.own
  obtain ⟨xs, h1, h2, h3⟩ := hrow
  have hsz : (w.alloc (.cells #[.string ⟨p.1.toArray⟩, .slice Av nv cv] e)).heap.size = w.heap.size + 1 := by simp
  have hown2 : (w.alloc (.cells #[.string ⟨p.1.toArray⟩, .slice Av nv cv] e)).ownsRow B e 2 (.slice A n c) n xs := World.ownsRow.alloc h1 _
  refine step_append_lies _ hgd sl x t ho B e i0 _ 2 40 ht hi hz0 hz1 hz2 rfl (by omega) (.slice A n c) n xs hs hown2 ⟨w.heap.size, 0, none⟩ 1 1 [.string ⟨p.1.toArray⟩, .slice Av nv cv] hx rfl
    (World.news_of_block (cs := #[.string ⟨p.1.toArray⟩, .slice Av nv cv]) (t := e) (fr := (0, 0)) (heap_alloc_new w _)) (by simp [Value.oneCell']) (by omega) (by unfold maxLen; omega) (by omega) (by omega) (w.heap.size + 1) (by simp) ?_
  intro g cap w' g1 g2 g3 _
  have hgr : Gr w (w.alloc (.cells #[.string ⟨p.1.toArray⟩, .slice Av nv cv] e)) := (Gr.refl w).allocO _
  exact h _ _ w' (prow_after h1.1 h2 h3 (fun k hk => (ho2 k hk).2) p Av nv cv hS hv hgr g1 g2 g3) (World.grownBy.trans (hgr.grown _) g2)
theorem grown_cell {w w' : World} {r : Option Nat} (h : w.grownBy w' r) {p : Addr} {v : Value} (hc : w.cell? p = some v) (hr : r ≠ some p.block) : w'.cell? p = some v := (World.grownBy.cell_far h p (World.block_lt_of_cell? _ _ hc) (fun e => hr e.symm)).trans hc
theorem OwnV.fresh {w : World} {B : Nat} {e : TypeId} {A : Option Addr} {n c : Nat} {xs : List Value} (h : OwnV w B e A n c xs) : ∀ ad, A = some ad → B ≤ ad.block := fun ad ha => by
  subst ha; exact (h.own ad.block rfl).1
set_option maxHeartbeats 8000000 in
set_option maxRecDepth 100000 in
theorem cpar_any (N : ByteArray) (A : Option Addr) (n c : Nat) (vs : List (List UInt8)) (w : World) (hS : Strs w w.heap.size A n vs) (hN : N.size ≤ 140737488355328) (hn : n * 16 ≤ 140737488355328) (hv : ∀ v ∈ vs, v.length ≤ 140737488355328) :
    Calls Tryd.prog 63 #[.agg #[.string N, .slice A n c]] w fun e w' => ∃ A2 c2, e = .returned (.agg #[.string N, .slice A2 n c2]) ∧ Strs w' w'.heap.size A2 n vs ∧ (0 < n → ∀ ad, A2 = some ad → w.heap.size ≤ ad.block) ∧ Gr w w' := by
  have HL := Lib.hid hS.1
  have hg0 : Gr w ((w.alloc (.cells #[.string N, .slice A n c] 79)).alloc (.cells #[.string ⟨#[]⟩, .slice none 0 0] 79)) := ((Gr.refl w).allocO _).allocO _
  have hb1 := (Bx2.new w (.string N) (.slice A n c) 79).gr ((Gr.refl _).allocO (.cells #[.string ⟨#[]⟩, .slice none 0 0] 79))
  have hb2 := Bx2.new (w.alloc (.cells #[.string N, .slice A n c] 79)) (.string ⟨#[]⟩) (.slice none 0 0) 79
  have z1 : (w.alloc (.cells #[.string N, .slice A n c] 79)).heap.size = w.heap.size + 1 := by simp
  rw [z1] at hb2
  have z2 : ((w.alloc (.cells #[.string N, .slice A n c] 79)).alloc (.cells #[.string ⟨#[]⟩, .slice none 0 0] 79)).heap.size = w.heap.size + 2 := by simp
  have cN := fun w => clone_any N w hN
  clear z1
  go_enter Tryd.func63, Tryd.ntmps63
  go_wp2_with (go_at_call 62; refine (cN _).mono ?_; rintro e w1 ⟨rfl, hg1⟩; have q1 := (hb1.gr hg1).c1; have q2 := ((hb1.gr hg1).gr ((Gr.refl w1).allocO (.cells #[.string N, .slice none 0 0] 79))).c1)
  have hb3 := Bx2.new w1 (.string N) (.slice none 0 0) 79
  have hgB : Gr w1 (w1.alloc (.cells #[.string N, .slice none 0 0] 79)) := (Gr.refl w1).allocO _
  have hb2' := (hb2.gr hg1).gr hgB
  have hg2 := hg0.trans hg1
  have hsz1 : w.heap.size + 2 ≤ w1.heap.size := by have := hg1.lt; omega
  have hszB : (w1.alloc (.cells #[.string N, .slice none 0 0] 79)).heap.size = w1.heap.size + 1 := by simp
  clear hb1 hb2 z2 hg0 hg1
  generalize (w1.alloc (.cells #[.string N, .slice none 0 0] 79)) = w0 at *
  go_loopg [13] n (fun g v13 wx => ∃ A2 c2, ∃ k : Nat, v13 = .int .i64 (k : Int) ∧ k + g = n ∧ Mv w1.heap.size w0 wx ∧ Bx2 wx w1.heap.size (.string N) (.slice A2 k c2) ∧ OwnV wx (w1.heap.size + 1) 9 A2 k c2 (sc (vs.take k)))
  case atStart => exact ⟨_, _, 0, rfl, by omega, Mv.refl _ _, hb3, OwnV.nil _ _ _⟩
  case round =>
    obtain ⟨A2, c2, k, rfl, hkg, hmv, hb3x, hrow⟩ := hrel
    have HG := Lib.hid hkg
    clear hkg
    have hszx : w1.heap.size + 1 ≤ wr.heap.size := by have := hmv.lt; omega
    have hgb : Below w.heap.size w wr := (hg2.below.trans (hgB.low (by omega))).trans (hmv.low (by omega) (by omega))
    by_cases hk : k < n
    · obtain ⟨ad, hk', rfl, hbl, hc0⟩ := (hS.keep hgb).at_ hk
      have hvk := hv _ (List.getElem_mem hk')
      have d0 := hb3x.c1
      have f3 := hb3x.f1
      have HTK := Lib.hid (List.take_succ_eq_append_getElem hk')
      have cV := fun w => clone_any ⟨vs[k].toArray⟩ w (by rw [size_mk]; exact hvk)
      generalize hX : (ByteArray.mk vs[k].toArray) = vb at *
      have HX := Lib.hid hX
      clear hX
      go_wp2_with fail
      have hS : (fun w' : World => w'.cell? ⟨w1.heap.size, 1, none⟩ = some (.slice A2 k c2)) wr.drew := d0
      refine wp_region_last 7 8 (fun w' : World => w'.cell? ⟨w1.heap.size, 1, none⟩ = some (.slice A2 k c2)) (by kernel_rfl) rfl ?_
      refine Wk.take (i := 0) (v := ?_) (at_lit rfl) (at_lit rfl) (by kernel_rfl) (by kernel_rfl) (by kernel_rfl) (by kernel_rfl) rfl (fun _ _ _ h => h) ?_ hS ?_
      rotate_left 1
      · intro w' hSw
        have s0 := hSw
        go_simp
        first | done | rfl
      try simp only [Act.put, List.setIfInBounds_toArray, List.set_cons_zero, List.set_cons_succ]
      refine Wk.take (i := 1) (v := ?_) (at_lit rfl) (at_lit rfl) (by kernel_rfl) (by kernel_rfl) (by kernel_rfl) (by kernel_rfl) rfl (fun _ _ _ h => h) ?_ hS ?_
      rotate_left 1
      · intro w' hSw
        have s0 := hSw
        go_simp
        first | done | rfl
      try simp only [Act.put, List.setIfInBounds_toArray, List.set_cons_zero, List.set_cons_succ]
      refine Wk.take (i := 2) (v := ?_) (at_lit rfl) (at_lit rfl) (by kernel_rfl) (by kernel_rfl) (by kernel_rfl) (by kernel_rfl) rfl (fun _ _ _ h => h) ?_ hS ?_
      rotate_left 1
      · intro w' hSw
        have s0 := hSw
        go_simp
        first | done | rfl
      try simp only [Act.put, List.setIfInBounds_toArray, List.set_cons_zero, List.set_cons_succ]
      refine Wk.one (i := 3) (at_lit rfl) (by kernel_rfl) (fun K hK => ?_)
      have hgD : Gr wr wr.drew := (Gr.refl wr).drew
      go_simp
      refine (cV wr.drew).mono ?_
      rintro e w4 ⟨rfl, hg4'⟩
      have hg4 := hgD.trans hg4'
      have d0' := gr_cell hg4 d0
      have hS : (fun w' : World => w'.cell? ⟨w1.heap.size, 1, none⟩ = some (.slice A2 k c2)) w4 := d0'
      refine hK _ _ (fun _ => hS) ?_
      clear hK K
      try simp only [Act.put, List.setIfInBounds_toArray, List.set_cons_zero, List.set_cons_succ]
      have hsz4 : w1.heap.size + 1 ≤ w4.heap.size := by have := hg4.lt; omega
      have f3' : w4.frozen? ⟨w1.heap.size, 1, none⟩ = false := (hg4.frozen (by show w1.heap.size < _; omega)).trans f3
      refine Wk.one (i := 4) (at_lit rfl) (by kernel_rfl) (fun K hK => ?_)
      go_simp
      have hgC : Gr w4 (w4.alloc (.cells #[.string vb] 9)) := (Gr.refl w4).allocO _
      refine hK _ _ (fun _ => gr_cell hgC d0') ?_
      clear hK K
      refine Wk.one (i := 5) (at_lit rfl) (by kernel_rfl) (fun K hK => ?_)
      refine st_str w4 (by rfl) (.tmp 18) (.tmp 21) (by rfl) (w1.heap.size + 1) A2 k c2 (sc (vs.take k)) (by rfl) (hrow.gr hg4) vb (by rfl) (by omega) hsz4 ?_
      intro g c9 w3 hrow3 hb3w
      have e31 := (hb3w.cell (p := ⟨w1.heap.size, 1, none⟩) (by show w1.heap.size < _; omega)).trans d0'
      have g31 := (hb3w.frozen (p := ⟨w1.heap.size, 1, none⟩) (by show w1.heap.size < _; omega)).trans f3'
      have hS : (fun w' : World => w'.cell? ⟨w1.heap.size, 1, none⟩ = some (.slice A2 k c2)) w3 := e31
      refine hK _ _ (fun _ => hS) ?_
      clear hK K
      simp only [Act.put, List.setIfInBounds_toArray, List.set_cons_zero, List.set_cons_succ]
      refine Wk.take (i := 6) (v := ?_) (at_lit rfl) (at_lit rfl) (by kernel_rfl) (by kernel_rfl) (by kernel_rfl) (by kernel_rfl) rfl (fun _ _ _ h => h) ?_ hS ?_
      rotate_left 1
      · intro w' hSw
        have s0 := hSw
        go_simp
        first | done | rfl
      try simp only [Act.put, List.setIfInBounds_toArray, List.set_cons_zero, List.set_cons_succ]
      refine Wk.one (i := 7) (at_lit rfl) (by kernel_rfl) (fun K hK => ?_)
      go_simp
      refine hK _ _ (fun h => absurd rfl h) ?_
      clear hK K
      refine Wk.done (by kernel_rfl) ?_
      have hbw4 : Below (w1.heap.size + 1) wr w3 := (hg4.low hszx).trans hb3w
      have hmv3 : Mv w1.heap.size w0 (w3.setCell ⟨w1.heap.size, 1, none⟩ (.slice (some ⟨g, 0, none⟩) (k + 1) c9)) := (hmv.below (by rw [hszB]; exact hbw4)).trans (Mv.set _ _ _ _)
      have hrow5 := hrow3.mv (Mv.set w1.heap.size w3 1 (.slice (some ⟨g, 0, none⟩) (k + 1) c9)) (by omega)
      have hb3n : Bx2 (w3.setCell ⟨w1.heap.size, 1, none⟩ (.slice (some ⟨g, 0, none⟩) (k + 1) c9)) w1.heap.size (.string N) (.slice (some ⟨g, 0, none⟩) (k + 1) c9) := (hb3x.below hbw4 (by omega)).set1 _
      go_wp2
      go_roundg (n - (k + 1))
      case measure => have := HG.out; omega
      case rel =>
        refine ⟨_, c9, k + 1, by go_num, by omega, hmv3, hb3n, ?_⟩
        rw [HTK.out, sc_append]
        have : sc [vs[k]] = [.string vb] := by rw [← HX.out]; rfl
        rw [this]
        exact hrow5
    · obtain rfl : k = n := by have := HG.out; omega
      rw [List.take_of_length_le (by rw [HL.out]; exact Nat.le_refl _)] at hrow
      have hb2x := hb2'.mv hmv (by omega)
      have HX2 := Lib.hid hb2x
      have d0 := hb3x.c0
      have d1 := hb3x.c1
      obtain ⟨x0, x1, f0, f1⟩ := hb2x
      go_wp2
      obtain ⟨y0, y1⟩ := HX2.out.set2 (.string N) (.slice A2 k c2)
      have hrow2 := own_set2 hrow (b := w.heap.size + 1) (by omega) (.string N) (.slice A2 k c2)
      have hbw := hgb.trans (below_set2 (w := wr) (b := w.heap.size + 1) (B := w.heap.size) (by omega) (.string N) (.slice A2 k c2))
      generalize World.setCell (World.setCell _ _ _) _ _ = W at *
      exact bodyPost_ret (v := .agg #[.string N, .slice A2 k c2]) (by simp [results, Tryd.results63, go_sem, y0, y1]) rfl ⟨A2, c2, rfl, Strs.of_own hrow2, fun _ ad ha => by have := hrow2.fresh ad ha; omega, ⟨hbw⟩⟩
set_option maxHeartbeats 8000000 in
set_option maxRecDepth 100000 in
theorem copied_any (N V : ByteArray) (A : Option Addr) (n c : Nat) (ps : List Ln.Par) (w : World) (hP : Pars w w.heap.size A n ps) (hN : N.size ≤ 140737488355328) (hV : V.size ≤ 140737488355328) (hn : n * 40 ≤ 140737488355328) (hp1 : ∀ p ∈ ps, p.1.length ≤ 140737488355328) (hp2 : ∀ p ∈ ps, p.2.length * 16 ≤ 140737488355328) (hp3 : ∀ p ∈ ps, ∀ v ∈ p.2, v.length ≤ 140737488355328) :
    Calls Tryd.prog 39 #[.agg #[.string N, .slice A n c, .string V]] w fun e w' => ∃ A2 c2, e = .returned (.agg #[.string N, .slice A2 n c2, .string V]) ∧ Fp (fun x => w.heap.size ≤ x) w' (fun v => Pars v v.heap.size A2 n ps) ∧ n ≤ c2 ∧ Gr w w' := by
  have HL := Lib.hid hP.1
  have hg0 : Gr w ((w.alloc (.cells #[.string N, .slice A n c, .string V] 48)).alloc (.cells #[.string ⟨#[]⟩, .slice none 0 0, .string ⟨#[]⟩] 48)) := ((Gr.refl w).allocO _).allocO _
  have hb1 := (Bx3.new w (.string N) (.slice A n c) (.string V) 48).gr ((Gr.refl _).allocO (.cells #[.string ⟨#[]⟩, .slice none 0 0, .string ⟨#[]⟩] 48))
  have hb2 := Bx3.new (w.alloc (.cells #[.string N, .slice A n c, .string V] 48)) (.string ⟨#[]⟩) (.slice none 0 0) (.string ⟨#[]⟩) 48
  have z1 : (w.alloc (.cells #[.string N, .slice A n c, .string V] 48)).heap.size = w.heap.size + 1 := by simp
  rw [z1] at hb2
  have z2 : ((w.alloc (.cells #[.string N, .slice A n c, .string V] 48)).alloc (.cells #[.string ⟨#[]⟩, .slice none 0 0, .string ⟨#[]⟩] 48)).heap.size = w.heap.size + 2 := by simp
  have cN := fun w => clone_any N w hN
  have cV := fun w => clone_any V w hV
  have Z2 := Lib.hid z2
  clear z1 z2
  go_enter Tryd.func39, Tryd.ntmps39
  go_wp2_with fail
  generalize ((w.alloc (.cells #[.string N, .slice A n c, .string V] 48)).alloc (.cells #[.string ⟨#[]⟩, .slice none 0 0, .string ⟨#[]⟩] 48)) = w0 at *
  have d0 := hb1.c0
  have d2 := hb1.c2
  have hS : (fun w' : World => w'.cell? ⟨w.heap.size, 0, none⟩ = some (.string N) ∧ w'.cell? ⟨w.heap.size, 2, none⟩ = some (.string V)) w0.drew := ⟨d0, d2⟩
  refine wp_region_last 8 9 (fun w' : World => w'.cell? ⟨w.heap.size, 0, none⟩ = some (.string N) ∧ w'.cell? ⟨w.heap.size, 2, none⟩ = some (.string V)) (by kernel_rfl) rfl ?_
  refine Wk.take (i := 0) (v := ?_) (at_lit rfl) (at_lit rfl) (by kernel_rfl) (by kernel_rfl) (by kernel_rfl) (by kernel_rfl) rfl (fun _ _ _ h => h) ?_ hS ?_
  rotate_left 1
  · intro w' hSw
    obtain ⟨s0, s1⟩ := hSw
    go_simp
    first | done | rfl
  try simp only [Act.put, List.setIfInBounds_toArray, List.set_cons_zero, List.set_cons_succ]
  refine Wk.take (i := 1) (v := ?_) (at_lit rfl) (at_lit rfl) (by kernel_rfl) (by kernel_rfl) (by kernel_rfl) (by kernel_rfl) rfl (fun _ _ _ h => h) ?_ hS ?_
  rotate_left 1
  · intro w' hSw
    obtain ⟨s0, s1⟩ := hSw
    go_simp
    first | done | rfl
  try simp only [Act.put, List.setIfInBounds_toArray, List.set_cons_zero, List.set_cons_succ]
  refine Wk.take (i := 3) (v := ?_) (at_lit rfl) (at_lit rfl) (by kernel_rfl) (by kernel_rfl) (by kernel_rfl) (by kernel_rfl) rfl (fun _ _ _ h => h) ?_ hS ?_
  rotate_left 1
  · intro w' hSw
    obtain ⟨s0, s1⟩ := hSw
    go_simp
    first | done | rfl
  try simp only [Act.put, List.setIfInBounds_toArray, List.set_cons_zero, List.set_cons_succ]
  refine Wk.take (i := 4) (v := ?_) (at_lit rfl) (at_lit rfl) (by kernel_rfl) (by kernel_rfl) (by kernel_rfl) (by kernel_rfl) rfl (fun _ _ _ h => h) ?_ hS ?_
  rotate_left 1
  · intro w' hSw
    obtain ⟨s0, s1⟩ := hSw
    go_simp
    first | done | rfl
  try simp only [Act.put, List.setIfInBounds_toArray, List.set_cons_zero, List.set_cons_succ]
  have hgD : Gr w0 w0.drew := (Gr.refl w0).drew
  refine Wk.two (i := 2) (j := 7) (at_lit rfl) (at_lit rfl) (by kernel_rfl) (fun K hK => ?_) (fun K hK => ?_)
  · have hg10 := hgD
    go_simp
    refine (cN w0.drew).mono ?_
    rintro e w1 ⟨rfl, hg1'⟩
    have hg1 := hg10.trans hg1'
    refine hK _ _ (fun _ => ⟨gr_cell hg1 d0, gr_cell hg1 d2⟩) ?_
    clear hK K
    try simp only [Act.put, List.setIfInBounds_toArray, List.set_cons_zero, List.set_cons_succ]
    refine Wk.two (i := 5) (j := 7) (at_lit rfl) (at_lit rfl) (by kernel_rfl) (fun K hK => ?_) (fun K hK => ?_)
    · have hg20 := hg1
      go_simp
      refine (cV w1).mono ?_
      rintro e w2 ⟨rfl, hg2'⟩
      have hg2 := hg20.trans hg2'
      refine hK _ _ (fun _ => ⟨gr_cell hg2 d0, gr_cell hg2 d2⟩) ?_
      clear hK K
      try simp only [Act.put, List.setIfInBounds_toArray, List.set_cons_zero, List.set_cons_succ]
      have hS : (fun w' : World => w'.cell? ⟨w.heap.size, 0, none⟩ = some (.string N) ∧ w'.cell? ⟨w.heap.size, 2, none⟩ = some (.string V)) (w2) := ⟨gr_cell hg2 d0, gr_cell hg2 d2⟩
      refine Wk.take (i := 6) (v := ?_) (at_lit rfl) (at_lit rfl) (by kernel_rfl) (by kernel_rfl) (by kernel_rfl) (by kernel_rfl) rfl (fun _ _ _ h => h) ?_ hS ?_
      rotate_left 1
      · intro w' hSw
        obtain ⟨s0, s1⟩ := hSw
        go_simp
        first | done | rfl
      try simp only [Act.put, List.setIfInBounds_toArray, List.set_cons_zero, List.set_cons_succ]
      refine Wk.one (i := 7) (at_lit rfl) (by kernel_rfl) (fun K hK => ?_)
      go_simp
      have hg3 : Gr w0 (w2.alloc (.cells #[.string ⟨#[]⟩, .slice none 0 0, .string ⟨#[]⟩] 48)) := hg2.allocO _
      refine hK _ _ (fun _ => ⟨gr_cell hg3 d0, gr_cell hg3 d2⟩) ?_
      clear hK K
      try simp only [Act.put, List.setIfInBounds_toArray, List.set_cons_zero, List.set_cons_succ]
      refine Wk.one (i := 8) (at_lit rfl) (by kernel_rfl) (fun K hK => ?_)
      have hbge : w.heap.size + 2 ≤ w2.heap.size := by have := Z2.out; have := hg2.lt; omega
      go_simp
      refine hK _ _ (fun h => absurd rfl h) ?_
      clear hK K
      refine Wk.done (by kernel_rfl) ?_
      have hbx := Bx3.new w2 (.string N) (.slice none 0 0) (.string V) 48
      have hgW : Gr w0 (w2.alloc (.cells #[.string N, .slice none 0 0, .string V] 48)) := hg2.allocO _
      obtain ⟨b3, hb3⟩ : ∃ b3, b3 = w2.heap.size := ⟨_, rfl⟩
      rw [← hb3] at hbx hbge ⊢
      clear hb3
      generalize (w2.alloc (.cells #[.string N, .slice none 0 0, .string V] 48)) = W at *
      have hz2 := Z2.out
      have hb1W := hb1.gr hgW
      have hb2W := hb2.gr hgW
      have hszW := hgW.lt
      have hb3lt := hbx.lt
      have hgwW := hg0.trans hgW
      have HIDE := Lib.hid (And.intro hb1W hb2W)
      clear hb1 hb2 hg0 hgD hS d0 d2
      have q1 := hb1W.c1
      go_wp2_with fail
      go_loopg [16] n (fun g v16 wx => ∃ A2 c2, ∃ k : Nat, v16 = .int .i64 (k : Int) ∧ k + g = n ∧ Mv b3 W wx ∧ Bx3 wx b3 (.string N) (.slice A2 k c2) (.string V) ∧ PRow wx W.heap.size (fun x => W.heap.size ≤ x) 79 A2 k c2 (ps.take k))
      case atStart => exact ⟨_, _, 0, rfl, by omega, Mv.refl _ _, hbx, by simpa using PRow.nil _ _ _ _⟩
      case round =>
        clear q1 hbx
        obtain ⟨A2, c2, k, rfl, hkg, hmv, hb3x, hrow⟩ := hrel
        have HG := Lib.hid hkg
        clear hkg
        have hszx : W.heap.size ≤ wr.heap.size := hmv.lt
        have hgb : Below w.heap.size w wr := hgwW.below.trans (hmv.low (by omega) (by omega))
        by_cases hk : k < n
        · obtain ⟨ad, hk', rfl, hbl, hc0, A', n', c', hc1, hSt⟩ := (hP.keep hgb).at_ hk
          have hx1 := hp1 _ (List.getElem_mem hk')
          have hx2 := hp2 _ (List.getElem_mem hk')
          have hx3 := hp3 _ (List.getElem_mem hk')
          have HTK := Lib.hid (List.take_succ_eq_append_getElem hk')
          have hg5 : Gr wr (wr.alloc (.cells #[.string ⟨ps[k].1.toArray⟩, .slice A' n' c'] 79)) := (Gr.refl wr).allocO _
          have hy5 := Bx2.new wr (.string ⟨ps[k].1.toArray⟩) (.slice A' n' c') 79
          have cP := fun w1 (s1 : Strs w1 w1.heap.size A' n' ps[k].2) => cpar_any ⟨ps[k].1.toArray⟩ A' n' c' ps[k].2 w1 s1 (by rw [size_mk]; exact hx1) (by rw [← hSt.1]; exact hx2) hx3
          have HPE : Hid ((ps[k].1, ps[k].2) = ps[k]) := Lib.hid rfl
          have d0 := gr_cell hg5 hb3x.c1
          have d1 := hy5.c0
          have d2 := hy5.c1
          have f3 := hb3x.f1
          have hnm : ∃ nm, nm = ByteArray.mk ps[k].1.toArray := ⟨_, rfl⟩
          obtain ⟨nm, hnm⟩ := hnm
          rw [← hnm] at cP d1 d2 hg5 hc0 d0
          have HNM := Lib.hid hnm
          clear hnm hy5 hx1 hx2 hx3
          have hkn : (k : Int) < (n : Int) := by omega
          go_wp2_with fail
          have hgD : Gr wr (wr.alloc (.cells #[.string nm, .slice A' n' c'] 79)).drew := hg5.drew
          have hszA : wr.heap.size ≤ (wr.alloc (.cells #[.string nm, .slice A' n' c'] 79)).drew.heap.size := hgD.lt
          have hS5 := (hSt.keep (hgD.low (B := w.heap.size) (by have := hgb.size; omega))).more (B' := (wr.alloc (.cells #[.string nm, .slice A' n' c'] 79)).drew.heap.size) (by have := hgb.size; omega)
          have hS : (fun w' : World => w'.cell? ⟨b3, 1, none⟩ = some (.slice A2 k c2) ∧ w'.cell? ⟨wr.heap.size, 0, none⟩ = some (.string nm) ∧ w'.cell? ⟨wr.heap.size, 1, none⟩ = some (.slice A' n' c')) (wr.alloc (.cells #[.string nm, .slice A' n' c'] 79)).drew := ⟨d0, d1, d2⟩
          refine wp_region_last 7 8 (fun w' : World => w'.cell? ⟨b3, 1, none⟩ = some (.slice A2 k c2) ∧ w'.cell? ⟨wr.heap.size, 0, none⟩ = some (.string nm) ∧ w'.cell? ⟨wr.heap.size, 1, none⟩ = some (.slice A' n' c')) (by kernel_rfl) rfl ?_
          refine Wk.take (i := 0) (v := ?_) (at_lit rfl) (at_lit rfl) (by kernel_rfl) (by kernel_rfl) (by kernel_rfl) (by kernel_rfl) rfl (fun _ _ _ h => h) ?_ hS ?_
          rotate_left 1
          · intro w' hSw
            obtain ⟨s0, s1, s2⟩ := hSw
            go_simp
            first | done | rfl
          try simp only [Act.put, List.setIfInBounds_toArray, List.set_cons_zero, List.set_cons_succ]
          refine Wk.take (i := 1) (v := ?_) (at_lit rfl) (at_lit rfl) (by kernel_rfl) (by kernel_rfl) (by kernel_rfl) (by kernel_rfl) rfl (fun _ _ _ h => h) ?_ hS ?_
          rotate_left 1
          · intro w' hSw
            obtain ⟨s0, s1, s2⟩ := hSw
            go_simp
            first | done | rfl
          try simp only [Act.put, List.setIfInBounds_toArray, List.set_cons_zero, List.set_cons_succ]
          refine Wk.take (i := 2) (v := ?_) (at_lit rfl) (at_lit rfl) (by kernel_rfl) (by kernel_rfl) (by kernel_rfl) (by kernel_rfl) rfl (fun _ _ _ h => h) ?_ hS ?_
          rotate_left 1
          · intro w' hSw
            obtain ⟨s0, s1, s2⟩ := hSw
            go_simp
            first | done | rfl
          try simp only [Act.put, List.setIfInBounds_toArray, List.set_cons_zero, List.set_cons_succ]
          refine Wk.one (i := 3) (at_lit rfl) (by kernel_rfl) (fun K hK => ?_)
          go_simp
          refine (cP _ hS5).mono ?_
          rintro e w4 ⟨A4, c4, rfl, hS4, hf4, hg4'⟩
          have hg4 := hgD.trans hg4'
          have d0' := gr_cell hg4' d0
          have d1' := gr_cell hg4' d1
          have d2' := gr_cell hg4' d2
          have hS : (fun w' : World => w'.cell? ⟨b3, 1, none⟩ = some (.slice A2 k c2) ∧ w'.cell? ⟨wr.heap.size, 0, none⟩ = some (.string nm) ∧ w'.cell? ⟨wr.heap.size, 1, none⟩ = some (.slice A' n' c')) w4 := ⟨d0', d1', d2'⟩
          refine hK _ _ (fun _ => hS) ?_
          clear hK K
          try simp only [Act.put, List.setIfInBounds_toArray, List.set_cons_zero, List.set_cons_succ]
          have hsz4 : W.heap.size ≤ w4.heap.size := by have := hg4.lt; omega
          have hwr4 : wr.heap.size < w4.heap.size := World.block_lt_of_cell? _ _ d1'
          have f3' : w4.frozen? ⟨b3, 1, none⟩ = false := (hg4.frozen (by show b3 < _; omega)).trans f3
          have hown := hrow.own
          have hv4 : 0 < n' → ∀ a, A4 = some a → W.heap.size ≤ a.block ∧ (Value.slice A2 k c2).ownBlock ≠ some a.block := fun h0 a ha => by
            have h1 := hf4 h0 a ha
            refine ⟨by omega, fun e => ?_⟩
            have := (hown _ e).2
            omega
          refine Wk.one (i := 4) (at_lit rfl) (by kernel_rfl) (fun K hK => ?_)
          go_simp
          have hgB : Gr w4 (w4.alloc (.cells #[.string nm, .slice A4 n' c4] 79)) := (Gr.refl w4).allocO _
          refine hK _ _ (fun _ => ⟨gr_cell hgB d0', gr_cell hgB d1', gr_cell hgB d2'⟩) ?_
          clear hK K
          refine Wk.one (i := 5) (at_lit rfl) (by kernel_rfl) (fun K hK => ?_)
          rw [HNM.out]
          refine st_parG w4 (by rfl) (.tmp 21) (.tmp 24) 46 79 Tryd.underlying46 info_par (by rfl) W.heap.size (fun x => W.heap.size ≤ x) A2 k c2 (ps.take k) (by rfl) (hrow.gr hg4) ps[k] A4 n' c4 hS4 hv4 (by rfl) (by omega) hsz4 ?_
          intro A3 c3 w3 hrow3 hgw3
          rw [← HNM.out]
          have hb3w := grown_low hgw3 hsz4 (fun q hq => (hown q hq).1)
          have e31 := (hb3w.cell (p := ⟨b3, 1, none⟩) (by show b3 < _; omega)).trans d0'
          have g31 := (hb3w.frozen (p := ⟨b3, 1, none⟩) (by show b3 < _; omega)).trans f3'
          have hno : (Value.slice A2 k c2).ownBlock ≠ some wr.heap.size := fun e => by have := (hown _ e).2; omega
          have hS : (fun w' : World => w'.cell? ⟨b3, 1, none⟩ = some (.slice A2 k c2) ∧ w'.cell? ⟨wr.heap.size, 0, none⟩ = some (.string nm) ∧ w'.cell? ⟨wr.heap.size, 1, none⟩ = some (.slice A' n' c')) w3 := ⟨e31, grown_cell hgw3 d1' hno, grown_cell hgw3 d2' hno⟩
          refine hK _ _ (fun _ => hS) ?_
          clear hK K
          simp only [Act.put, List.setIfInBounds_toArray, List.set_cons_zero, List.set_cons_succ]
          refine Wk.take (i := 6) (v := ?_) (at_lit rfl) (at_lit rfl) (by kernel_rfl) (by kernel_rfl) (by kernel_rfl) (by kernel_rfl) rfl (fun _ _ _ h => h) ?_ hS ?_
          rotate_left 1
          · intro w' hSw
            obtain ⟨s0, s1, s2⟩ := hSw
            go_simp
            first | done | rfl
          try simp only [Act.put, List.setIfInBounds_toArray, List.set_cons_zero, List.set_cons_succ]
          refine Wk.one (i := 7) (at_lit rfl) (by kernel_rfl) (fun K hK => ?_)
          go_simp
          refine hK _ _ (fun h => absurd rfl h) ?_
          clear hK K
          refine Wk.done (by kernel_rfl) ?_
          have hbw4 : Below W.heap.size wr w3 := (hg4.low hszx).trans hb3w
          have hb3n : Bx3 (w3.setCell ⟨b3, 1, none⟩ (.slice A3 (k + 1) c3)) b3 (.string N) (.slice A3 (k + 1) c3) (.string V) := (hb3x.below hbw4 hb3lt).set1 _
          have hmv3 : Mv b3 W (w3.setCell ⟨b3, 1, none⟩ (.slice A3 (k + 1) c3)) := (hmv.below hbw4).trans (Mv.set _ _ _ _)
          have hrow5 := hrow3.kept (Mv.set b3 w3 1 (.slice A3 (k + 1) c3)) (fun q hq => by injection hq with hq; subst hq; exact ⟨hb3lt, fun x hx => by have hx' : W.heap.size ≤ x := hx; omega⟩)
          go_wp2
          go_roundg (n - (k + 1))
          case measure => have := HG.out; omega
          case rel => exact ⟨A3, c3, k + 1, by go_num, by omega, hmv3, hb3n, by rw [HTK.out]; exact hrow5⟩
        · obtain rfl : k = n := by have := HG.out; omega
          rw [List.take_of_length_le (by rw [HL.out]; exact Nat.le_refl _)] at hrow
          have hb2x := (HIDE.out.2).mv hmv (by omega)
          have HX2 := Lib.hid hb2x
          have d0 := hb3x.c0
          have d1 := hb3x.c1
          have d2 := hb3x.c2
          obtain ⟨x0, x1, x2, f0, f1, f2⟩ := hb2x
          go_wp2
          obtain ⟨y0, y1, y2⟩ := HX2.out.set3 (.string N) (.slice A2 k c2) (.string V)
          have hrow2 := hrow.kept (mv_set3 wr (w.heap.size + 1) (.string N) (.slice A2 k c2) (.string V)) (fun q hq => by injection hq with hq; subst hq; exact ⟨by omega, fun x hx => by have hx' : W.heap.size ≤ x := hx; omega⟩)
          have hbw := hgb.trans (below_set3 (w := wr) (b := w.heap.size + 1) (B := w.heap.size) (by omega) (.string N) (.slice A2 k c2) (.string V))
          generalize World.setCell (World.setCell (World.setCell _ _ _) _ _) _ _ = W2 at *
          exact bodyPost_ret (v := .agg #[.string N, .slice A2 k c2, .string V]) (by simp [results, Tryd.results39, go_sem, y0, y1, y2]) rfl ⟨A2, c2, rfl, hrow2.fp (fun x (hx : _ ≤ x) => by omega) (fun x hx => by omega), hrow2.capt, ⟨hbw⟩⟩
    · have hg1a := hg1
      go_simp
      have hg3 : Gr w0 (w1.alloc (.cells #[.string ⟨#[]⟩, .slice none 0 0, .string ⟨#[]⟩] 48)) := hg1.allocO _
      refine hK _ _ (fun _ => ⟨gr_cell hg3 d0, gr_cell hg3 d2⟩) ?_
      clear hK K
      try simp only [Act.put, List.setIfInBounds_toArray, List.set_cons_zero, List.set_cons_succ]
      refine Wk.one (i := 5) (at_lit rfl) (by kernel_rfl) (fun K hK => ?_)
      have hg20 := hg3
      go_simp
      refine (cV (w1.alloc (.cells #[.string ⟨#[]⟩, .slice none 0 0, .string ⟨#[]⟩] 48))).mono ?_
      rintro e w2 ⟨rfl, hg2'⟩
      have hg2 := hg20.trans hg2'
      refine hK _ _ (fun _ => ⟨gr_cell hg2 d0, gr_cell hg2 d2⟩) ?_
      clear hK K
      try simp only [Act.put, List.setIfInBounds_toArray, List.set_cons_zero, List.set_cons_succ]
      have hS : (fun w' : World => w'.cell? ⟨w.heap.size, 0, none⟩ = some (.string N) ∧ w'.cell? ⟨w.heap.size, 2, none⟩ = some (.string V)) (w2) := ⟨gr_cell hg2 d0, gr_cell hg2 d2⟩
      refine Wk.take (i := 6) (v := ?_) (at_lit rfl) (at_lit rfl) (by kernel_rfl) (by kernel_rfl) (by kernel_rfl) (by kernel_rfl) rfl (fun _ _ _ h => h) ?_ hS ?_
      rotate_left 1
      · intro w' hSw
        obtain ⟨s0, s1⟩ := hSw
        go_simp
        first | done | rfl
      try simp only [Act.put, List.setIfInBounds_toArray, List.set_cons_zero, List.set_cons_succ]
      refine Wk.one (i := 8) (at_lit rfl) (by kernel_rfl) (fun K hK => ?_)
      have hbx : Bx3 (w2) w1.heap.size (.string ⟨#[]⟩) (.slice none 0 0) (.string ⟨#[]⟩) := (Bx3.new w1 _ _ _ _).gr hg2'
      have hbge0 : w0.heap.size ≤ w1.heap.size := hg1.lt
      have hbge : w.heap.size + 2 ≤ w1.heap.size := by have := Z2.out; omega
      have hblt := hbx.lt
      obtain ⟨x0, x1, x2, f0, f1, f2⟩ := hbx
      go_simp
      refine hK _ _ (fun h => absurd rfl h) ?_
      clear hK K
      refine Wk.done (by kernel_rfl) ?_
      have hbx := Bx3.all ⟨x0, x1, x2, f0, f1, f2⟩ (.string N) (.slice none 0 0) (.string V)
      have hgW := gr_all hbge0 hg2 (.string N) (.slice none 0 0) (.string V)
      clear x0 x1 x2 f0 f1 f2 hblt hbge0
      obtain ⟨b3, hb3⟩ : ∃ b3, b3 = w1.heap.size := ⟨_, rfl⟩
      rw [← hb3] at hbx hbge hgW ⊢
      clear hb3
      generalize World.setCell (World.setCell (World.setCell _ _ _) _ _) _ _ = W at *
      have hz2 := Z2.out
      have hb1W := hb1.gr hgW
      have hb2W := hb2.gr hgW
      have hszW := hgW.lt
      have hb3lt := hbx.lt
      have hgwW := hg0.trans hgW
      have HIDE := Lib.hid (And.intro hb1W hb2W)
      clear hb1 hb2 hg0 hgD hS d0 d2
      have q1 := hb1W.c1
      go_wp2_with fail
      go_loopg [16] n (fun g v16 wx => ∃ A2 c2, ∃ k : Nat, v16 = .int .i64 (k : Int) ∧ k + g = n ∧ Mv b3 W wx ∧ Bx3 wx b3 (.string N) (.slice A2 k c2) (.string V) ∧ PRow wx W.heap.size (fun x => W.heap.size ≤ x) 79 A2 k c2 (ps.take k))
      case atStart => exact ⟨_, _, 0, rfl, by omega, Mv.refl _ _, hbx, by simpa using PRow.nil _ _ _ _⟩
      case round =>
        clear q1 hbx
        obtain ⟨A2, c2, k, rfl, hkg, hmv, hb3x, hrow⟩ := hrel
        have HG := Lib.hid hkg
        clear hkg
        have hszx : W.heap.size ≤ wr.heap.size := hmv.lt
        have hgb : Below w.heap.size w wr := hgwW.below.trans (hmv.low (by omega) (by omega))
        by_cases hk : k < n
        · obtain ⟨ad, hk', rfl, hbl, hc0, A', n', c', hc1, hSt⟩ := (hP.keep hgb).at_ hk
          have hx1 := hp1 _ (List.getElem_mem hk')
          have hx2 := hp2 _ (List.getElem_mem hk')
          have hx3 := hp3 _ (List.getElem_mem hk')
          have HTK := Lib.hid (List.take_succ_eq_append_getElem hk')
          have hg5 : Gr wr (wr.alloc (.cells #[.string ⟨ps[k].1.toArray⟩, .slice A' n' c'] 79)) := (Gr.refl wr).allocO _
          have hy5 := Bx2.new wr (.string ⟨ps[k].1.toArray⟩) (.slice A' n' c') 79
          have cP := fun w1 (s1 : Strs w1 w1.heap.size A' n' ps[k].2) => cpar_any ⟨ps[k].1.toArray⟩ A' n' c' ps[k].2 w1 s1 (by rw [size_mk]; exact hx1) (by rw [← hSt.1]; exact hx2) hx3
          have HPE : Hid ((ps[k].1, ps[k].2) = ps[k]) := Lib.hid rfl
          have d0 := gr_cell hg5 hb3x.c1
          have d1 := hy5.c0
          have d2 := hy5.c1
          have f3 := hb3x.f1
          have hnm : ∃ nm, nm = ByteArray.mk ps[k].1.toArray := ⟨_, rfl⟩
          obtain ⟨nm, hnm⟩ := hnm
          rw [← hnm] at cP d1 d2 hg5 hc0 d0
          have HNM := Lib.hid hnm
          clear hnm hy5 hx1 hx2 hx3
          have hkn : (k : Int) < (n : Int) := by omega
          go_wp2_with fail
          have hgD : Gr wr (wr.alloc (.cells #[.string nm, .slice A' n' c'] 79)).drew := hg5.drew
          have hszA : wr.heap.size ≤ (wr.alloc (.cells #[.string nm, .slice A' n' c'] 79)).drew.heap.size := hgD.lt
          have hS5 := (hSt.keep (hgD.low (B := w.heap.size) (by have := hgb.size; omega))).more (B' := (wr.alloc (.cells #[.string nm, .slice A' n' c'] 79)).drew.heap.size) (by have := hgb.size; omega)
          have hS : (fun w' : World => w'.cell? ⟨b3, 1, none⟩ = some (.slice A2 k c2) ∧ w'.cell? ⟨wr.heap.size, 0, none⟩ = some (.string nm) ∧ w'.cell? ⟨wr.heap.size, 1, none⟩ = some (.slice A' n' c')) (wr.alloc (.cells #[.string nm, .slice A' n' c'] 79)).drew := ⟨d0, d1, d2⟩
          refine wp_region_last 7 8 (fun w' : World => w'.cell? ⟨b3, 1, none⟩ = some (.slice A2 k c2) ∧ w'.cell? ⟨wr.heap.size, 0, none⟩ = some (.string nm) ∧ w'.cell? ⟨wr.heap.size, 1, none⟩ = some (.slice A' n' c')) (by kernel_rfl) rfl ?_
          refine Wk.take (i := 0) (v := ?_) (at_lit rfl) (at_lit rfl) (by kernel_rfl) (by kernel_rfl) (by kernel_rfl) (by kernel_rfl) rfl (fun _ _ _ h => h) ?_ hS ?_
          rotate_left 1
          · intro w' hSw
            obtain ⟨s0, s1, s2⟩ := hSw
            go_simp
            first | done | rfl
          try simp only [Act.put, List.setIfInBounds_toArray, List.set_cons_zero, List.set_cons_succ]
          refine Wk.take (i := 1) (v := ?_) (at_lit rfl) (at_lit rfl) (by kernel_rfl) (by kernel_rfl) (by kernel_rfl) (by kernel_rfl) rfl (fun _ _ _ h => h) ?_ hS ?_
          rotate_left 1
          · intro w' hSw
            obtain ⟨s0, s1, s2⟩ := hSw
            go_simp
            first | done | rfl
          try simp only [Act.put, List.setIfInBounds_toArray, List.set_cons_zero, List.set_cons_succ]
          refine Wk.take (i := 2) (v := ?_) (at_lit rfl) (at_lit rfl) (by kernel_rfl) (by kernel_rfl) (by kernel_rfl) (by kernel_rfl) rfl (fun _ _ _ h => h) ?_ hS ?_
          rotate_left 1
          · intro w' hSw
            obtain ⟨s0, s1, s2⟩ := hSw
            go_simp
            first | done | rfl
          try simp only [Act.put, List.setIfInBounds_toArray, List.set_cons_zero, List.set_cons_succ]
          refine Wk.one (i := 3) (at_lit rfl) (by kernel_rfl) (fun K hK => ?_)
          go_simp
          refine (cP _ hS5).mono ?_
          rintro e w4 ⟨A4, c4, rfl, hS4, hf4, hg4'⟩
          have hg4 := hgD.trans hg4'
          have d0' := gr_cell hg4' d0
          have d1' := gr_cell hg4' d1
          have d2' := gr_cell hg4' d2
          have hS : (fun w' : World => w'.cell? ⟨b3, 1, none⟩ = some (.slice A2 k c2) ∧ w'.cell? ⟨wr.heap.size, 0, none⟩ = some (.string nm) ∧ w'.cell? ⟨wr.heap.size, 1, none⟩ = some (.slice A' n' c')) w4 := ⟨d0', d1', d2'⟩
          refine hK _ _ (fun _ => hS) ?_
          clear hK K
          try simp only [Act.put, List.setIfInBounds_toArray, List.set_cons_zero, List.set_cons_succ]
          have hsz4 : W.heap.size ≤ w4.heap.size := by have := hg4.lt; omega
          have hwr4 : wr.heap.size < w4.heap.size := World.block_lt_of_cell? _ _ d1'
          have f3' : w4.frozen? ⟨b3, 1, none⟩ = false := (hg4.frozen (by show b3 < _; omega)).trans f3
          have hown := hrow.own
          have hv4 : 0 < n' → ∀ a, A4 = some a → W.heap.size ≤ a.block ∧ (Value.slice A2 k c2).ownBlock ≠ some a.block := fun h0 a ha => by
            have h1 := hf4 h0 a ha
            refine ⟨by omega, fun e => ?_⟩
            have := (hown _ e).2
            omega
          refine Wk.one (i := 4) (at_lit rfl) (by kernel_rfl) (fun K hK => ?_)
          go_simp
          have hgB : Gr w4 (w4.alloc (.cells #[.string nm, .slice A4 n' c4] 79)) := (Gr.refl w4).allocO _
          refine hK _ _ (fun _ => ⟨gr_cell hgB d0', gr_cell hgB d1', gr_cell hgB d2'⟩) ?_
          clear hK K
          refine Wk.one (i := 5) (at_lit rfl) (by kernel_rfl) (fun K hK => ?_)
          rw [HNM.out]
          refine st_parG w4 (by rfl) (.tmp 21) (.tmp 24) 46 79 Tryd.underlying46 info_par (by rfl) W.heap.size (fun x => W.heap.size ≤ x) A2 k c2 (ps.take k) (by rfl) (hrow.gr hg4) ps[k] A4 n' c4 hS4 hv4 (by rfl) (by omega) hsz4 ?_
          intro A3 c3 w3 hrow3 hgw3
          rw [← HNM.out]
          have hb3w := grown_low hgw3 hsz4 (fun q hq => (hown q hq).1)
          have e31 := (hb3w.cell (p := ⟨b3, 1, none⟩) (by show b3 < _; omega)).trans d0'
          have g31 := (hb3w.frozen (p := ⟨b3, 1, none⟩) (by show b3 < _; omega)).trans f3'
          have hno : (Value.slice A2 k c2).ownBlock ≠ some wr.heap.size := fun e => by have := (hown _ e).2; omega
          have hS : (fun w' : World => w'.cell? ⟨b3, 1, none⟩ = some (.slice A2 k c2) ∧ w'.cell? ⟨wr.heap.size, 0, none⟩ = some (.string nm) ∧ w'.cell? ⟨wr.heap.size, 1, none⟩ = some (.slice A' n' c')) w3 := ⟨e31, grown_cell hgw3 d1' hno, grown_cell hgw3 d2' hno⟩
          refine hK _ _ (fun _ => hS) ?_
          clear hK K
          simp only [Act.put, List.setIfInBounds_toArray, List.set_cons_zero, List.set_cons_succ]
          refine Wk.take (i := 6) (v := ?_) (at_lit rfl) (at_lit rfl) (by kernel_rfl) (by kernel_rfl) (by kernel_rfl) (by kernel_rfl) rfl (fun _ _ _ h => h) ?_ hS ?_
          rotate_left 1
          · intro w' hSw
            obtain ⟨s0, s1, s2⟩ := hSw
            go_simp
            first | done | rfl
          try simp only [Act.put, List.setIfInBounds_toArray, List.set_cons_zero, List.set_cons_succ]
          refine Wk.one (i := 7) (at_lit rfl) (by kernel_rfl) (fun K hK => ?_)
          go_simp
          refine hK _ _ (fun h => absurd rfl h) ?_
          clear hK K
          refine Wk.done (by kernel_rfl) ?_
          have hbw4 : Below W.heap.size wr w3 := (hg4.low hszx).trans hb3w
          have hb3n : Bx3 (w3.setCell ⟨b3, 1, none⟩ (.slice A3 (k + 1) c3)) b3 (.string N) (.slice A3 (k + 1) c3) (.string V) := (hb3x.below hbw4 hb3lt).set1 _
          have hmv3 : Mv b3 W (w3.setCell ⟨b3, 1, none⟩ (.slice A3 (k + 1) c3)) := (hmv.below hbw4).trans (Mv.set _ _ _ _)
          have hrow5 := hrow3.kept (Mv.set b3 w3 1 (.slice A3 (k + 1) c3)) (fun q hq => by injection hq with hq; subst hq; exact ⟨hb3lt, fun x hx => by have hx' : W.heap.size ≤ x := hx; omega⟩)
          go_wp2
          go_roundg (n - (k + 1))
          case measure => have := HG.out; omega
          case rel => exact ⟨A3, c3, k + 1, by go_num, by omega, hmv3, hb3n, by rw [HTK.out]; exact hrow5⟩
        · obtain rfl : k = n := by have := HG.out; omega
          rw [List.take_of_length_le (by rw [HL.out]; exact Nat.le_refl _)] at hrow
          have hb2x := (HIDE.out.2).mv hmv (by omega)
          have HX2 := Lib.hid hb2x
          have d0 := hb3x.c0
          have d1 := hb3x.c1
          have d2 := hb3x.c2
          obtain ⟨x0, x1, x2, f0, f1, f2⟩ := hb2x
          go_wp2
          obtain ⟨y0, y1, y2⟩ := HX2.out.set3 (.string N) (.slice A2 k c2) (.string V)
          have hrow2 := hrow.kept (mv_set3 wr (w.heap.size + 1) (.string N) (.slice A2 k c2) (.string V)) (fun q hq => by injection hq with hq; subst hq; exact ⟨by omega, fun x hx => by have hx' : W.heap.size ≤ x := hx; omega⟩)
          have hbw := hgb.trans (below_set3 (w := wr) (b := w.heap.size + 1) (B := w.heap.size) (by omega) (.string N) (.slice A2 k c2) (.string V))
          generalize World.setCell (World.setCell (World.setCell _ _ _) _ _) _ _ = W2 at *
          exact bodyPost_ret (v := .agg #[.string N, .slice A2 k c2, .string V]) (by simp [results, Tryd.results39, go_sem, y0, y1, y2]) rfl ⟨A2, c2, rfl, hrow2.fp (fun x (hx : _ ≤ x) => by omega) (fun x hx => by omega), hrow2.capt, ⟨hbw⟩⟩
  · have hg3 : Gr w0 w0.drew := hgD
    go_simp
    have hg4 : Gr w0 (w0.drew.alloc (.cells #[.string ⟨#[]⟩, .slice none 0 0, .string ⟨#[]⟩] 48)) := hg3.allocO _
    refine hK _ _ (fun _ => ⟨gr_cell hg4 d0, gr_cell hg4 d2⟩) ?_
    clear hK K
    try simp only [Act.put, List.setIfInBounds_toArray, List.set_cons_zero, List.set_cons_succ]
    refine Wk.one (i := 2) (at_lit rfl) (by kernel_rfl) (fun K hK => ?_)
    have hg10 := hg4
    go_simp
    refine (cN (w0.drew.alloc (.cells #[.string ⟨#[]⟩, .slice none 0 0, .string ⟨#[]⟩] 48))).mono ?_
    rintro e w1 ⟨rfl, hg1'⟩
    have hg1 := hg10.trans hg1'
    refine hK _ _ (fun _ => ⟨gr_cell hg1 d0, gr_cell hg1 d2⟩) ?_
    clear hK K
    try simp only [Act.put, List.setIfInBounds_toArray, List.set_cons_zero, List.set_cons_succ]
    refine Wk.one (i := 5) (at_lit rfl) (by kernel_rfl) (fun K hK => ?_)
    have hg20 := hg1
    go_simp
    refine (cV w1).mono ?_
    rintro e w2 ⟨rfl, hg2'⟩
    have hg2 := hg20.trans hg2'
    refine hK _ _ (fun _ => ⟨gr_cell hg2 d0, gr_cell hg2 d2⟩) ?_
    clear hK K
    try simp only [Act.put, List.setIfInBounds_toArray, List.set_cons_zero, List.set_cons_succ]
    have hS : (fun w' : World => w'.cell? ⟨w.heap.size, 0, none⟩ = some (.string N) ∧ w'.cell? ⟨w.heap.size, 2, none⟩ = some (.string V)) (w2) := ⟨gr_cell hg2 d0, gr_cell hg2 d2⟩
    refine Wk.take (i := 6) (v := ?_) (at_lit rfl) (at_lit rfl) (by kernel_rfl) (by kernel_rfl) (by kernel_rfl) (by kernel_rfl) rfl (fun _ _ _ h => h) ?_ hS ?_
    rotate_left 1
    · intro w' hSw
      obtain ⟨s0, s1⟩ := hSw
      go_simp
      first | done | rfl
    try simp only [Act.put, List.setIfInBounds_toArray, List.set_cons_zero, List.set_cons_succ]
    refine Wk.one (i := 8) (at_lit rfl) (by kernel_rfl) (fun K hK => ?_)
    have hbx : Bx3 (w2) w0.heap.size (.string ⟨#[]⟩) (.slice none 0 0) (.string ⟨#[]⟩) := ((Bx3.new w0.drew _ _ _ _).gr hg1').gr hg2'
    have hbge0 : w0.heap.size ≤ w0.heap.size := Nat.le_refl _
    have hbge : w.heap.size + 2 ≤ w0.heap.size := by have := Z2.out; omega
    have hblt := hbx.lt
    obtain ⟨x0, x1, x2, f0, f1, f2⟩ := hbx
    go_simp
    refine hK _ _ (fun h => absurd rfl h) ?_
    clear hK K
    refine Wk.done (by kernel_rfl) ?_
    have hbx := Bx3.all ⟨x0, x1, x2, f0, f1, f2⟩ (.string N) (.slice none 0 0) (.string V)
    have hgW := gr_all hbge0 hg2 (.string N) (.slice none 0 0) (.string V)
    clear x0 x1 x2 f0 f1 f2 hblt hbge0
    obtain ⟨b3, hb3⟩ : ∃ b3, b3 = w0.heap.size := ⟨_, rfl⟩
    rw [← hb3] at hbx hbge hgW ⊢
    clear hb3
    generalize World.setCell (World.setCell (World.setCell _ _ _) _ _) _ _ = W at *
    have hz2 := Z2.out
    have hb1W := hb1.gr hgW
    have hb2W := hb2.gr hgW
    have hszW := hgW.lt
    have hb3lt := hbx.lt
    have hgwW := hg0.trans hgW
    have HIDE := Lib.hid (And.intro hb1W hb2W)
    clear hb1 hb2 hg0 hgD hS d0 d2
    have q1 := hb1W.c1
    go_wp2_with fail
    go_loopg [16] n (fun g v16 wx => ∃ A2 c2, ∃ k : Nat, v16 = .int .i64 (k : Int) ∧ k + g = n ∧ Mv b3 W wx ∧ Bx3 wx b3 (.string N) (.slice A2 k c2) (.string V) ∧ PRow wx W.heap.size (fun x => W.heap.size ≤ x) 79 A2 k c2 (ps.take k))
    case atStart => exact ⟨_, _, 0, rfl, by omega, Mv.refl _ _, hbx, by simpa using PRow.nil _ _ _ _⟩
    case round =>
      clear q1 hbx
      obtain ⟨A2, c2, k, rfl, hkg, hmv, hb3x, hrow⟩ := hrel
      have HG := Lib.hid hkg
      clear hkg
      have hszx : W.heap.size ≤ wr.heap.size := hmv.lt
      have hgb : Below w.heap.size w wr := hgwW.below.trans (hmv.low (by omega) (by omega))
      by_cases hk : k < n
      · obtain ⟨ad, hk', rfl, hbl, hc0, A', n', c', hc1, hSt⟩ := (hP.keep hgb).at_ hk
        have hx1 := hp1 _ (List.getElem_mem hk')
        have hx2 := hp2 _ (List.getElem_mem hk')
        have hx3 := hp3 _ (List.getElem_mem hk')
        have HTK := Lib.hid (List.take_succ_eq_append_getElem hk')
        have hg5 : Gr wr (wr.alloc (.cells #[.string ⟨ps[k].1.toArray⟩, .slice A' n' c'] 79)) := (Gr.refl wr).allocO _
        have hy5 := Bx2.new wr (.string ⟨ps[k].1.toArray⟩) (.slice A' n' c') 79
        have cP := fun w1 (s1 : Strs w1 w1.heap.size A' n' ps[k].2) => cpar_any ⟨ps[k].1.toArray⟩ A' n' c' ps[k].2 w1 s1 (by rw [size_mk]; exact hx1) (by rw [← hSt.1]; exact hx2) hx3
        have HPE : Hid ((ps[k].1, ps[k].2) = ps[k]) := Lib.hid rfl
        have d0 := gr_cell hg5 hb3x.c1
        have d1 := hy5.c0
        have d2 := hy5.c1
        have f3 := hb3x.f1
        have hnm : ∃ nm, nm = ByteArray.mk ps[k].1.toArray := ⟨_, rfl⟩
        obtain ⟨nm, hnm⟩ := hnm
        rw [← hnm] at cP d1 d2 hg5 hc0 d0
        have HNM := Lib.hid hnm
        clear hnm hy5 hx1 hx2 hx3
        have hkn : (k : Int) < (n : Int) := by omega
        go_wp2_with fail
        have hgD : Gr wr (wr.alloc (.cells #[.string nm, .slice A' n' c'] 79)).drew := hg5.drew
        have hszA : wr.heap.size ≤ (wr.alloc (.cells #[.string nm, .slice A' n' c'] 79)).drew.heap.size := hgD.lt
        have hS5 := (hSt.keep (hgD.low (B := w.heap.size) (by have := hgb.size; omega))).more (B' := (wr.alloc (.cells #[.string nm, .slice A' n' c'] 79)).drew.heap.size) (by have := hgb.size; omega)
        have hS : (fun w' : World => w'.cell? ⟨b3, 1, none⟩ = some (.slice A2 k c2) ∧ w'.cell? ⟨wr.heap.size, 0, none⟩ = some (.string nm) ∧ w'.cell? ⟨wr.heap.size, 1, none⟩ = some (.slice A' n' c')) (wr.alloc (.cells #[.string nm, .slice A' n' c'] 79)).drew := ⟨d0, d1, d2⟩
        refine wp_region_last 7 8 (fun w' : World => w'.cell? ⟨b3, 1, none⟩ = some (.slice A2 k c2) ∧ w'.cell? ⟨wr.heap.size, 0, none⟩ = some (.string nm) ∧ w'.cell? ⟨wr.heap.size, 1, none⟩ = some (.slice A' n' c')) (by kernel_rfl) rfl ?_
        refine Wk.take (i := 0) (v := ?_) (at_lit rfl) (at_lit rfl) (by kernel_rfl) (by kernel_rfl) (by kernel_rfl) (by kernel_rfl) rfl (fun _ _ _ h => h) ?_ hS ?_
        rotate_left 1
        · intro w' hSw
          obtain ⟨s0, s1, s2⟩ := hSw
          go_simp
          first | done | rfl
        try simp only [Act.put, List.setIfInBounds_toArray, List.set_cons_zero, List.set_cons_succ]
        refine Wk.take (i := 1) (v := ?_) (at_lit rfl) (at_lit rfl) (by kernel_rfl) (by kernel_rfl) (by kernel_rfl) (by kernel_rfl) rfl (fun _ _ _ h => h) ?_ hS ?_
        rotate_left 1
        · intro w' hSw
          obtain ⟨s0, s1, s2⟩ := hSw
          go_simp
          first | done | rfl
        try simp only [Act.put, List.setIfInBounds_toArray, List.set_cons_zero, List.set_cons_succ]
        refine Wk.take (i := 2) (v := ?_) (at_lit rfl) (at_lit rfl) (by kernel_rfl) (by kernel_rfl) (by kernel_rfl) (by kernel_rfl) rfl (fun _ _ _ h => h) ?_ hS ?_
        rotate_left 1
        · intro w' hSw
          obtain ⟨s0, s1, s2⟩ := hSw
          go_simp
          first | done | rfl
        try simp only [Act.put, List.setIfInBounds_toArray, List.set_cons_zero, List.set_cons_succ]
        refine Wk.one (i := 3) (at_lit rfl) (by kernel_rfl) (fun K hK => ?_)
        go_simp
        refine (cP _ hS5).mono ?_
        rintro e w4 ⟨A4, c4, rfl, hS4, hf4, hg4'⟩
        have hg4 := hgD.trans hg4'
        have d0' := gr_cell hg4' d0
        have d1' := gr_cell hg4' d1
        have d2' := gr_cell hg4' d2
        have hS : (fun w' : World => w'.cell? ⟨b3, 1, none⟩ = some (.slice A2 k c2) ∧ w'.cell? ⟨wr.heap.size, 0, none⟩ = some (.string nm) ∧ w'.cell? ⟨wr.heap.size, 1, none⟩ = some (.slice A' n' c')) w4 := ⟨d0', d1', d2'⟩
        refine hK _ _ (fun _ => hS) ?_
        clear hK K
        try simp only [Act.put, List.setIfInBounds_toArray, List.set_cons_zero, List.set_cons_succ]
        have hsz4 : W.heap.size ≤ w4.heap.size := by have := hg4.lt; omega
        have hwr4 : wr.heap.size < w4.heap.size := World.block_lt_of_cell? _ _ d1'
        have f3' : w4.frozen? ⟨b3, 1, none⟩ = false := (hg4.frozen (by show b3 < _; omega)).trans f3
        have hown := hrow.own
        have hv4 : 0 < n' → ∀ a, A4 = some a → W.heap.size ≤ a.block ∧ (Value.slice A2 k c2).ownBlock ≠ some a.block := fun h0 a ha => by
          have h1 := hf4 h0 a ha
          refine ⟨by omega, fun e => ?_⟩
          have := (hown _ e).2
          omega
        refine Wk.one (i := 4) (at_lit rfl) (by kernel_rfl) (fun K hK => ?_)
        go_simp
        have hgB : Gr w4 (w4.alloc (.cells #[.string nm, .slice A4 n' c4] 79)) := (Gr.refl w4).allocO _
        refine hK _ _ (fun _ => ⟨gr_cell hgB d0', gr_cell hgB d1', gr_cell hgB d2'⟩) ?_
        clear hK K
        refine Wk.one (i := 5) (at_lit rfl) (by kernel_rfl) (fun K hK => ?_)
        rw [HNM.out]
        refine st_parG w4 (by rfl) (.tmp 21) (.tmp 24) 46 79 Tryd.underlying46 info_par (by rfl) W.heap.size (fun x => W.heap.size ≤ x) A2 k c2 (ps.take k) (by rfl) (hrow.gr hg4) ps[k] A4 n' c4 hS4 hv4 (by rfl) (by omega) hsz4 ?_
        intro A3 c3 w3 hrow3 hgw3
        rw [← HNM.out]
        have hb3w := grown_low hgw3 hsz4 (fun q hq => (hown q hq).1)
        have e31 := (hb3w.cell (p := ⟨b3, 1, none⟩) (by show b3 < _; omega)).trans d0'
        have g31 := (hb3w.frozen (p := ⟨b3, 1, none⟩) (by show b3 < _; omega)).trans f3'
        have hno : (Value.slice A2 k c2).ownBlock ≠ some wr.heap.size := fun e => by have := (hown _ e).2; omega
        have hS : (fun w' : World => w'.cell? ⟨b3, 1, none⟩ = some (.slice A2 k c2) ∧ w'.cell? ⟨wr.heap.size, 0, none⟩ = some (.string nm) ∧ w'.cell? ⟨wr.heap.size, 1, none⟩ = some (.slice A' n' c')) w3 := ⟨e31, grown_cell hgw3 d1' hno, grown_cell hgw3 d2' hno⟩
        refine hK _ _ (fun _ => hS) ?_
        clear hK K
        simp only [Act.put, List.setIfInBounds_toArray, List.set_cons_zero, List.set_cons_succ]
        refine Wk.take (i := 6) (v := ?_) (at_lit rfl) (at_lit rfl) (by kernel_rfl) (by kernel_rfl) (by kernel_rfl) (by kernel_rfl) rfl (fun _ _ _ h => h) ?_ hS ?_
        rotate_left 1
        · intro w' hSw
          obtain ⟨s0, s1, s2⟩ := hSw
          go_simp
          first | done | rfl
        try simp only [Act.put, List.setIfInBounds_toArray, List.set_cons_zero, List.set_cons_succ]
        refine Wk.one (i := 7) (at_lit rfl) (by kernel_rfl) (fun K hK => ?_)
        go_simp
        refine hK _ _ (fun h => absurd rfl h) ?_
        clear hK K
        refine Wk.done (by kernel_rfl) ?_
        have hbw4 : Below W.heap.size wr w3 := (hg4.low hszx).trans hb3w
        have hb3n : Bx3 (w3.setCell ⟨b3, 1, none⟩ (.slice A3 (k + 1) c3)) b3 (.string N) (.slice A3 (k + 1) c3) (.string V) := (hb3x.below hbw4 hb3lt).set1 _
        have hmv3 : Mv b3 W (w3.setCell ⟨b3, 1, none⟩ (.slice A3 (k + 1) c3)) := (hmv.below hbw4).trans (Mv.set _ _ _ _)
        have hrow5 := hrow3.kept (Mv.set b3 w3 1 (.slice A3 (k + 1) c3)) (fun q hq => by injection hq with hq; subst hq; exact ⟨hb3lt, fun x hx => by have hx' : W.heap.size ≤ x := hx; omega⟩)
        go_wp2
        go_roundg (n - (k + 1))
        case measure => have := HG.out; omega
        case rel => exact ⟨A3, c3, k + 1, by go_num, by omega, hmv3, hb3n, by rw [HTK.out]; exact hrow5⟩
      · obtain rfl : k = n := by have := HG.out; omega
        rw [List.take_of_length_le (by rw [HL.out]; exact Nat.le_refl _)] at hrow
        have hb2x := (HIDE.out.2).mv hmv (by omega)
        have HX2 := Lib.hid hb2x
        have d0 := hb3x.c0
        have d1 := hb3x.c1
        have d2 := hb3x.c2
        obtain ⟨x0, x1, x2, f0, f1, f2⟩ := hb2x
        go_wp2
        obtain ⟨y0, y1, y2⟩ := HX2.out.set3 (.string N) (.slice A2 k c2) (.string V)
        have hrow2 := hrow.kept (mv_set3 wr (w.heap.size + 1) (.string N) (.slice A2 k c2) (.string V)) (fun q hq => by injection hq with hq; subst hq; exact ⟨by omega, fun x hx => by have hx' : W.heap.size ≤ x := hx; omega⟩)
        have hbw := hgb.trans (below_set3 (w := wr) (b := w.heap.size + 1) (B := w.heap.size) (by omega) (.string N) (.slice A2 k c2) (.string V))
        generalize World.setCell (World.setCell (World.setCell _ _ _) _ _) _ _ = W2 at *
        exact bodyPost_ret (v := .agg #[.string N, .slice A2 k c2, .string V]) (by simp [results, Tryd.results39, go_sem, y0, y1, y2]) rfl ⟨A2, c2, rfl, hrow2.fp (fun x (hx : _ ≤ x) => by omega) (fun x hx => by omega), hrow2.capt, ⟨hbw⟩⟩
end Go.Proofs.YtbfngdpdgmgfpaaDoor
namespace Go.Proofs.YtbfngdpdgmgfpaaDoor
open Go.RowKit

namespace Ln
def nmc (ls : List Li) (nm : List UInt8) : Nat := (ls.filter fun l => decide (l.name = nm)).length
theorem nmc_take (ls : List Li) (nm : List UInt8) (k : Nat) (hk : k < ls.length) : nmc (ls.take (k + 1)) nm = nmc (ls.take k) nm + (if ls[k].name = nm then 1 else 0) := by
  rw [List.take_succ_eq_append_getElem hk]
  unfold nmc
  rw [List.filter_append, List.length_append]
  by_cases h : ls[k].name = nm <;> simp [h]
theorem nmc_le (ls : List Li) (nm : List UInt8) : nmc ls nm ≤ ls.length := List.length_filter_le _ _
theorem nmc_no {ls : List Li} {nm : List UInt8} {k : Nat} (h : nmc (ls.take k) nm = 0) : ∀ i (hi : i < ls.length), i < k → ls[i].name ≠ nm := by
  intro i hi hik e
  unfold nmc at h
  have h2 := List.eq_nil_of_length_eq_zero h
  have h3 : ls[i] ∈ (ls.take k).filter fun l => decide (l.name = nm) := List.mem_filter.2 ⟨by rw [List.mem_take_iff_getElem]; exact ⟨i, by omega, rfl⟩, by simpa using e⟩
  rw [h2] at h3; cases h3
/- the first line of that name is at place j -/
def Fst (ls : List Li) (nm : List UInt8) (j : Nat) : Prop := ∃ h : j < ls.length, ls[j].name = nm ∧ ∀ i (hi : i < ls.length), i < j → ls[i].name ≠ nm
theorem Fst.uniq {ls : List Li} {nm : List UInt8} {i j : Nat} (h : Fst ls nm i) (k : Fst ls nm j) : i = j := by
  obtain ⟨h1, h2, h3⟩ := h
  obtain ⟨k1, k2, k3⟩ := k
  rcases Nat.lt_trichotomy i j with e | e | e
  · exact absurd h2 (k3 i h1 e)
  · exact e
  · exact absurd k2 (h3 j k1 e)
end Ln
/- what has been found so far -/
def Fnds (ls : List Ln.Li) (nm : List UInt8) (B m : Nat) (X Z : ByteArray) (A' : Option Addr) (n' c' : Nat) (w : World) : Prop :=
  (m = 0 ∧ X = ⟨#[]⟩ ∧ Z = ⟨#[]⟩ ∧ A' = none ∧ n' = 0 ∧ c' = 0) ∨ (0 < m ∧ ∃ j, ∃ h : j < ls.length, Ln.Fst ls nm j ∧ X = ⟨ls[j].name.toArray⟩ ∧ Z = ⟨ls[j].value.toArray⟩ ∧ n' ≤ c' ∧ Fp (fun b => B ≤ b) w (fun v => Pars v v.heap.size A' n' ls[j].ps))
theorem Fnds.agree {ls : List Ln.Li} {nm : List UInt8} {B m : Nat} {X Z : ByteArray} {A' : Option Addr} {n' c' : Nat} {w w' : World} (h : Fnds ls nm B m X Z A' n' c' w) (hg : Agree (fun b => B ≤ b) w w') : Fnds ls nm B m X Z A' n' c' w' := by
  rcases h with h | ⟨h0, j, h1, h2, h3, h4, h6, h7⟩
  · exact .inl h
  · exact .inr ⟨h0, j, h1, h2, h3, h4, h6, h7.agree hg⟩
theorem Fnds.more {ls : List Ln.Li} {nm : List UInt8} {B m : Nat} {X Z : ByteArray} {A' : Option Addr} {n' c' : Nat} {w : World} (h : Fnds ls nm B m X Z A' n' c' w) (h0 : 0 < m) : Fnds ls nm B (m + 1) X Z A' n' c' w := by
  rcases h with ⟨h, _⟩ | ⟨_, h⟩
  · omega
  · exact .inr ⟨by omega, h⟩
set_option maxHeartbeats 8000000 in
set_option maxRecDepth 100000 in
theorem tfind_any (nm name : ByteArray) (A A2 : Option Addr) (n c n2 c2 : Nat) (ls : List Ln.Li) (w : World) (hLs : Lns w w.heap.size A n ls) (hn : n * 56 ≤ 140737488355328) (hR : ∀ l ∈ ls, Ln.Rw l) :
    Calls Tryd.prog 20 #[.agg #[.string nm, .slice A n c, .slice A2 n2 c2], .string name] w fun e w' => ∃ X Z A' n' c', e = .returned (.tuple #[.agg #[.string X, .slice A' n' c', .string Z], .int .i64 ((Ln.nmc ls name.data.toList : Nat) : Int)]) ∧ Fnds ls name.data.toList w.heap.size (Ln.nmc ls name.data.toList) X Z A' n' c' w' ∧ Gr w w' := by
  have HL := Lib.hid hLs.1
  have hg0 : Gr w (((w.alloc (.cells #[.string nm, .slice A n c, .slice A2 n2 c2] 31)).alloc (.cells #[.string ⟨#[]⟩, .slice none 0 0, .string ⟨#[]⟩] 48)).alloc (.cells #[.string ⟨#[]⟩, .slice none 0 0, .string ⟨#[]⟩] 48)) := (((Gr.refl w).allocO _).allocO _).allocO _
  have hb1 := ((Bx3.new w (.string nm) (.slice A n c) (.slice A2 n2 c2) 31).gr ((Gr.refl _).allocO (.cells #[.string ⟨#[]⟩, .slice none 0 0, .string ⟨#[]⟩] 48))).gr ((Gr.refl _).allocO (.cells #[.string ⟨#[]⟩, .slice none 0 0, .string ⟨#[]⟩] 48))
  have hb2 := (Bx3.new (w.alloc (.cells #[.string nm, .slice A n c, .slice A2 n2 c2] 31)) (.string ⟨#[]⟩) (.slice none 0 0) (.string ⟨#[]⟩) 48).gr ((Gr.refl _).allocO (.cells #[.string ⟨#[]⟩, .slice none 0 0, .string ⟨#[]⟩] 48))
  have hb3 := Bx3.new ((w.alloc (.cells #[.string nm, .slice A n c, .slice A2 n2 c2] 31)).alloc (.cells #[.string ⟨#[]⟩, .slice none 0 0, .string ⟨#[]⟩] 48)) (.string ⟨#[]⟩) (.slice none 0 0) (.string ⟨#[]⟩) 48
  have z1 : (w.alloc (.cells #[.string nm, .slice A n c, .slice A2 n2 c2] 31)).heap.size = w.heap.size + 1 := by simp
  have z2 : ((w.alloc (.cells #[.string nm, .slice A n c, .slice A2 n2 c2] 31)).alloc (.cells #[.string ⟨#[]⟩, .slice none 0 0, .string ⟨#[]⟩] 48)).heap.size = w.heap.size + 2 := by simp
  have z3 : (((w.alloc (.cells #[.string nm, .slice A n c, .slice A2 n2 c2] 31)).alloc (.cells #[.string ⟨#[]⟩, .slice none 0 0, .string ⟨#[]⟩] 48)).alloc (.cells #[.string ⟨#[]⟩, .slice none 0 0, .string ⟨#[]⟩] 48)).heap.size = w.heap.size + 3 := by simp
  rw [z1] at hb2
  rw [z2] at hb3
  clear z1 z2
  go_enter Tryd.func20, Tryd.ntmps20
  go_wp2
  generalize (((w.alloc (.cells #[.string nm, .slice A n c, .slice A2 n2 c2] 31)).alloc (.cells #[.string ⟨#[]⟩, .slice none 0 0, .string ⟨#[]⟩] 48)).alloc (.cells #[.string ⟨#[]⟩, .slice none 0 0, .string ⟨#[]⟩] 48)) = w0 at *
  go_loopg [7, 13] n (fun g v7 v13 wx => ∃ (k m : Nat) (X Z : ByteArray) (Ay : Option Addr) (ny cy : Nat), v13 = .int .i64 (k : Int) ∧ v7 = .int .i64 (m : Int) ∧ k + g = n ∧ m ≤ k ∧ Hid (m = Ln.nmc (ls.take k) name.data.toList) ∧ Mv (w.heap.size + 2) w0 wx ∧ Bx3 wx (w.heap.size + 2) (.string X) (.slice Ay ny cy) (.string Z) ∧ Fnds ls name.data.toList (w.heap.size + 3) m X Z Ay ny cy wx)
  case atStart => exact ⟨0, 0, _, _, _, _, _, rfl, rfl, by omega, by omega, Lib.hid (by simp [Ln.nmc]), Mv.refl _ _, hb3, .inl ⟨rfl, rfl, rfl, rfl, rfl, rfl⟩⟩
  case round =>
    obtain ⟨k, m, X, Z, Ay, ny, cy, rfl, rfl, hkg, hmk, HM, hmv, hb3x, hFn⟩ := hrel
    have HG := Lib.hid hkg
    clear hkg
    have hszx : w.heap.size + 3 ≤ wr.heap.size := by have := hmv.lt; omega
    have hgb : Below w.heap.size w wr := hg0.below.trans (hmv.low (by omega) (by omega))
    by_cases hk : k < n
    · obtain ⟨ad, hk', A', n', c', rfl, hbl, hc0, hc1, hc2, hP, hnc⟩ := (hLs.keep hgb).at_ hk
      have hRw := hR _ (List.getElem_mem hk')
      have hg5 : Gr wr (wr.alloc (.cells #[.string ⟨ls[k].name.toArray⟩, .slice A' n' c', .string ⟨ls[k].value.toArray⟩] 48)) := (Gr.refl wr).allocO _
      have hx5 := Bx3.new wr (.string ⟨ls[k].name.toArray⟩) (.slice A' n' c') (.string ⟨ls[k].value.toArray⟩) 48
      have hct := Ln.nmc_take ls name.data.toList k hk'
      have hmm := HM.out
      have hq : ((ByteArray.mk ls[k].name.toArray).toList == name.toList) = decide (ls[k].name = name.data.toList) := str_eq (by rw [decide_eq_true_iff])
      have hsz5 : (wr.alloc (.cells #[.string ⟨ls[k].name.toArray⟩, .slice A' n' c', .string ⟨ls[k].value.toArray⟩] 48)).heap.size = wr.heap.size + 1 := by simp
      have cC := copied_any ⟨ls[k].name.toArray⟩ ⟨ls[k].value.toArray⟩ A' n' c' ls[k].ps _ ((hP.keep (hg5.low (by have := hgb.size; omega))).more (by have := hg5.lt; have := hgb.size; omega)) (by rw [size_mk]; exact hRw.name) (by rw [size_mk]; exact hRw.value) (by rw [← hP.1]; exact hRw.num) hRw.p1 hRw.p2 hRw.p3
      have hmv5 : Mv (w.heap.size + 2) w0 (wr.alloc (.cells #[.string ⟨ls[k].name.toArray⟩, .slice A' n' c', .string ⟨ls[k].value.toArray⟩] 48)) := hmv.trans (hg5.mv _)
      have hb35 := hb3x.gr hg5
      have hFn5 := hFn.agree (hg5.agree _)
      by_cases he : ls[k].name = name.data.toList
      · rw [if_pos he] at hct
        rw [decide_eq_true he] at hq
        have HM2 : Hid (m + 1 = Ln.nmc (ls.take (k + 1)) name.data.toList) := Lib.hid (by omega)
        have HFst : Hid (m = 0 → Ln.Fst ls name.data.toList k) := Lib.hid (fun h0 => ⟨hk', he, Ln.nmc_no (k := k) (by omega)⟩)
        have HEx : Hid (∃ h : k < ls.length, True) := Lib.hid ⟨hk', trivial⟩
        have HN : ∃ nl, nl = ByteArray.mk ls[k].name.toArray := ⟨_, rfl⟩
        have HV : ∃ vl, vl = ByteArray.mk ls[k].value.toArray := ⟨_, rfl⟩
        obtain ⟨nl, hnl⟩ := HN
        obtain ⟨vl, hvl⟩ := HV
        rw [← hnl, ← hvl] at cC
        rw [← hnl] at hq hc0
        rw [← hvl] at hc2
        rw [← hnl, ← hvl] at hmv5 hb35 hFn5 hg5 hx5 hsz5
        have HNL := Lib.hid hnl
        have HVL := Lib.hid hvl
        clear hct hmm he hnl hvl hRw HM
        obtain ⟨e0, e1, e2, e3, e4, e5⟩ := hx5
        by_cases hm0 : m = 0
        · subst hm0
          obtain ⟨b0, b1, b2, b3, b4, b5⟩ := hb35
          go_wp2_with fail
          refine cC.mono ?_
          rintro e w6 ⟨A4, c4, rfl, hP4, hnc4, hg6⟩
          have hb36 := (Bx3.mk b0 b1 b2 b3 b4 b5).gr hg6
          clear b0 b1 b2 b3 b4 b5
          have HB6 := Lib.hid hb36
          obtain ⟨b0, b1, b2, b3, b4, b5⟩ := hb36
          go_wp2
          go_roundg (n - (k + 1))
          case measure => have := HG.out; omega
          case rel =>
            have hmvS := mv_set3 w6 (w.heap.size + 2) (.string nl) (.slice A4 n' c4) (.string vl)
            refine ⟨k + 1, 0 + 1, nl, vl, A4, n', c4, by go_num, by go_num, by omega, by omega, HM2, (hmv5.trans (hg6.mv _)).trans hmvS, HB6.out.all (.string nl) (.slice A4 n' c4) (.string vl), .inr ⟨by omega, k, HEx.out.1, HFst.out (by trivial), HNL.out, HVL.out, hnc4, ?_⟩⟩
            refine (hP4.weak (G := fun b => w.heap.size + 3 ≤ b) (fun b _ hb => ?_)).agree (hmvS.agree (fun b hb => ?_))
            · have : (wr.alloc (.cells #[.string nl, .slice A' n' c', .string vl] 48)).heap.size ≤ b := hb
              omega
            · have : w.heap.size + 3 ≤ b := hb
              omega
        · have hmi : ((m : Int) == 0) = false := by rw [beq_eq_false_iff_ne]; omega
          have hFm := hFn5.more (by omega)
          clear hFn hFn5 cC
          go_wp2
          go_roundg (n - (k + 1))
          case measure => have := HG.out; omega
          case rel => exact ⟨k + 1, m + 1, X, Z, Ay, ny, cy, by go_num, by go_num, by omega, by omega, HM2, hmv5, hb35, hFm⟩
      · rw [if_neg he] at hct
        rw [decide_eq_false he] at hq
        have HM2 : Hid (m = Ln.nmc (ls.take (k + 1)) name.data.toList) := Lib.hid (by omega)
        clear hct hmm he hRw HM cC
        obtain ⟨e0, e1, e2, e3, e4, e5⟩ := hx5
        generalize (ByteArray.mk ls[k].name.toArray) = nl at *
        generalize (ByteArray.mk ls[k].value.toArray) = vl at *
        go_wp2
        go_roundg (n - (k + 1))
        case measure => have := HG.out; omega
        case rel => exact ⟨k + 1, m, X, Z, Ay, ny, cy, by go_num, by go_num, by omega, by omega, HM2, hmv5, hb35, hFn5⟩
    · obtain rfl : k = n := by have := HG.out; omega
      have hmm := HM.out
      rw [List.take_of_length_le (by rw [HL.out]; exact Nat.le_refl _)] at hmm
      have hb2x := hb2.mv hmv (by omega)
      have HX2 := Lib.hid hb2x
      have HMM := Lib.hid hmm
      have d0 := hb3x.c0
      have d1 := hb3x.c1
      have d2 := hb3x.c2
      obtain ⟨x0, x1, x2, f0, f1, f2⟩ := hb2x
      clear HM hmm
      go_wp2
      obtain ⟨y0, y1, y2⟩ := HX2.out.set3 (.string X) (.slice Ay ny cy) (.string Z)
      have hmvS := mv_set3 wr (w.heap.size + 1) (.string X) (.slice Ay ny cy) (.string Z)
      have hFm := hFn.agree (hmvS.agree (fun b hb => by have : w.heap.size + 3 ≤ b := hb; omega))
      have hbw := hgb.trans (below_set3 (w := wr) (b := w.heap.size + 1) (B := w.heap.size) (by omega) (.string X) (.slice Ay ny cy) (.string Z))
      generalize World.setCell (World.setCell (World.setCell _ _ _) _ _) _ _ = W at *
      refine bodyPost_ret (v := .tuple #[.agg #[.string X, .slice Ay ny cy, .string Z], .int .i64 (m : Int)]) (by simp [results, Tryd.results20, go_sem, y0, y1, y2]) rfl ?_
      rw [← HMM.out]
      refine ⟨X, Z, Ay, ny, cy, rfl, ?_, ⟨hbw⟩⟩
      rcases hFm with h | ⟨h0, j, h1, h2, h3, h4, h6, h7⟩
      · exact .inl h
      · exact .inr ⟨h0, j, h1, h2, h3, h4, h6, h7.weak (fun b _ hb => by have : w.heap.size + 3 ≤ b := hb; omega)⟩
end Go.Proofs.YtbfngdpdgmgfpaaDoor
