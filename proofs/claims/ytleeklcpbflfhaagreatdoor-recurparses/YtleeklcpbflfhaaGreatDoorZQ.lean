/- The texts RcInsI, RcInsW, RcInsO, one behind the other. -/
import Derived.Test.YtleeklcpbflfhaaGreatDoorZN
import Derived.Test.YtleeklcpbflfhaaGreatDoorZE
import Derived.Test.YtleeklcpbflfhaaGreatDoorZShelf5
import Derived.Test.YtleeklcpbflfhaaGreatDoorZF
namespace Go.Proofs.YtleeklcpbflfhaaGreatDoor
open Go.RowKit

theorem heap_cell {w : World} {b : Nat} {cs : Array Value} {T : TypeId} {fr : Nat × Nat} (hb : w.heap[b]? = some (.cells cs T fr)) (j : Nat) : w.cell? ⟨b, j, none⟩ = cs[j]? := by
  simp [World.cell?, hb]
theorem heap_free {w : World} {b : Nat} {cs : Array Value} {T : TypeId} (hb : w.heap[b]? = some (.cells cs T (0, 0))) (j : Nat) : w.frozen? ⟨b, j, none⟩ = false := by
  simp [World.frozen?, hb]
theorem heap_shape {w : World} {b : Nat} {cs : Array Value} {T : TypeId} {fr : Nat × Nat} (hb : w.heap[b]? = some (.cells cs T fr)) : w.shape? b = some (T, cs.size) := by
  simp [World.shape?, hb]
theorem sm_setCells {K : Nat → Prop} {b : Nat} (h : ¬ K b) : ∀ (vs : List Value) (o : Nat) (w : World), Sm K w (w.setCells b o vs)
  | [], _, w => Sm.refl K w
  | v :: vs, o, w => (Sm.setCell K w ⟨b, o, none⟩ v h).trans (sm_setCells h vs (o + 1) _)
theorem sm_drew (K : Nat → Prop) (w : World) : Sm K w w.drew := ⟨rfl, rfl, rfl, Nat.le_refl _, fun _ _ _ => rfl⟩
theorem sm_alloc (K : Nat → Prop) (w : World) (o : Obj) : Sm K w (w.alloc o) := ((Gr.refl w).allocO o).sm K
def iv (l : List Int) : List Value := l.map fun x => .int .i64 x
theorem iv_one (l : List Int) : ∀ v ∈ iv l, v.oneCell' = true := by
  intro v hv
  obtain ⟨x, _, rfl⟩ := List.mem_map.1 hv
  rfl
/- the blocks that are not the row's own -/
def Oth (A : Option Addr) (k : Nat) : Prop := ∀ ad, A = some ad → k ≠ ad.block
set_option maxHeartbeats 1000000 in
theorem insI_any (B : Nat) (A : Option Addr) (n c vb P : Nat) (xs : List Int) (x : Int) (w : World) (hB : B ≤ w.heap.size) (hO : OwnV w B 3 A n c (iv xs)) (hv : w.heap[vb]? = some (.cells #[.int .i64 x] 3 (0, 0))) (hne : Oth A vb) (hP : P ≤ n) (hn : n ≤ 1000000) :
    Calls Tryz.prog 143 #[.slice A n c, .int .i64 (P : Int), .slice (some ⟨vb, 0, none⟩) 1 1] w fun e w' => ∃ A' c', e = .returned (.slice A' (n + 1) c') ∧ OwnV w' B 3 A' (n + 1) c' (iv (xs.take P ++ x :: xs.drop P)) ∧ Sm (Oth A) w w' ∧ (∀ ad, A' = some ad → A = some ad ∨ ad.block = w.heap.size) := by
  have hmx : maxLen = 9223372036854775807 := by decide
  have hlx : xs.length = n := by have := hO.len; simpa [iv] using this
  have hcl : (iv xs).length = n := hO.len
  have hvs : ∀ j v, ([.int .i64 x] : List Value)[j]? = some v → w.cell? ⟨vb, 0 + j, none⟩ = some v := fun j v h => by
    rw [Nat.zero_add, heap_cell hv]
    rw [← h, ← Array.getElem?_toList]
  have h1v : ∀ v ∈ ([.int .i64 x] : List Value), v.oneCell' = true := fun v h => by rw [List.mem_singleton] at h; rw [h]; rfl
  have hiv : iv (xs.take P ++ x :: xs.drop P) = (iv xs).take P ++ .int .i64 x :: (iv xs).drop P := by simp [iv]
  rw [hiv]
  rcases hO.2 with ⟨he, rfl⟩ | ⟨g, cap, cur, he, hb, hh, hnc, hcm, hsz, hx⟩
  · obtain ⟨rfl, _, rfl⟩ : A = none ∧ (0 : Nat) = 0 ∧ c = 0 := by cases he; exact ⟨rfl, rfl, rfl⟩
    obtain rfl : P = 0 := by omega
    have hx0 : xs = [] := List.eq_nil_of_length_eq_zero hlx
    subst hx0
    refine (Tryz.slices_Insert_int_end_grow none 0 0 vb 0 1 1 [] [.int .i64 x] w (by decide) (by decide) (by decide) (by decide) rfl rfl (fun _ => rfl) (fun a h => by cases h) hvs h1v).mono ?_
    rintro e w' ⟨rfl, rfl⟩
    have hge := grownCap_ge w (0 + 1) 0 3
    have hcm := grownCap_le_maxLen w (0 + 1) 0 3 (by decide)
    refine ⟨_, _, rfl, ⟨rfl, .inr ⟨w.heap.size, _, _, rfl, hB, heap_alloc_new w.drew _, hge, hcm, ?_, ?_⟩⟩, (sm_drew _ w).trans (sm_alloc _ _ _), fun ad h => by cases h; exact Or.inr rfl⟩
    · rw [Array.size_append, size_zeroCells]
      show 1 + _ * 1 = _
      omega
    · simp [iv]
  · obtain ⟨rfl, _, rfl⟩ : A = some ⟨g, 0, none⟩ ∧ n = n ∧ c = cap := by cases he; exact ⟨rfl, rfl, rfl⟩
    rw [Nat.mul_one] at hx hsz
    have hvg : vb ≠ g := hne _ rfl
    have hK : ¬ Oth (some ⟨g, 0, none⟩) g := fun h => h _ rfl rfl
    have hcs : ∀ j v, (iv xs)[j]? = some v → w.cell? ⟨g, 0 + j, none⟩ = some v := fun j v h => by
      rw [Nat.zero_add, heap_cell hh, ← Array.getElem?_toList]
      rw [← hx, List.getElem?_take] at h
      split at h
      · exact h
      · cases h
    have hcl2 : cur.toList.length = c := by rw [Array.length_toList]; exact hsz
    by_cases hr : n + 1 ≤ c
    · have hsp : ∀ j, j < n + 1 → (w.cell? ⟨g, 0 + j, none⟩).isSome = true := fun j hj => by
        rw [Nat.zero_add, heap_cell hh, Array.getElem?_eq_getElem (by omega)]
        rfl
      have hfz : ∀ j, j < n + 1 → w.frozen? ⟨g, 0 + j, none⟩ = false := fun j hj => heap_free hh _
      by_cases hPn : P < n
      · refine (Tryz.slices_Insert_int_shift g 0 n c P vb 0 1 1 (iv xs) [.int .i64 x] w hPn (by decide) hr (by omega) hvg hcl rfl hcs hsp hfz hvs (iv_one xs) h1v 3 3 _ _ (heap_shape hv) (heap_shape hh) (by rw [hsz]; omega) (heap_free hv _) (heap_free hv _)).mono ?_
        rintro e w' ⟨rfl, rfl⟩
        rw [Nat.zero_add, Nat.zero_add]
        exact ⟨_, _, rfl, own_shift (w := w.drew) hb hh hr hcm (by rw [hsz, Nat.mul_one]) hx hP hcl, ((sm_drew _ w).trans (sm_setCells hK _ _ _)).trans (sm_setCells hK _ _ _), fun ad h => Or.inl h⟩
      · obtain rfl : P = n := by omega
        refine (Tryz.slices_Insert_int_end_room g 0 P c vb 0 1 1 [.int .i64 x] w (by decide) hr (by omega) rfl (fun j hj => by rw [show 0 + P + j = 0 + (P + j) by omega]; exact hsp _ (by omega)) (fun j hj => heap_free hh _) hvs h1v).mono ?_
        rintro e w' ⟨rfl, rfl⟩
        rw [Nat.zero_add]
        have h := own_shift (w := w) (v := .int .i64 x) hb hh hr hcm (by rw [hsz, Nat.mul_one]) hx hP hcl
        rw [List.drop_of_length_le (by omega)] at h ⊢
        exact ⟨_, _, rfl, h, sm_setCells hK _ _ _, fun ad h => Or.inl h⟩
    · have hge := grownCap_ge w (n + 1) c 3
      have hcm2 := grownCap_le_maxLen w (n + 1) c 3 (by omega)
      by_cases hPn : P < n
      · refine (Tryz.slices_Insert_int_grow g 0 n c P vb 0 1 1 (iv xs) [.int .i64 x] w hPn (by decide) hnc (by omega) (by omega) hcl rfl hcs hvs (iv_one xs) h1v).mono ?_
        rintro e w' ⟨rfl, rfl⟩
        generalize hG : grownCap w (n + 1) c 3 = G at *
        have hz0 : (Value.int .i64 0).cells.size = 1 := rfl
        generalize hc0 : (((iv xs).take P).toArray ++ Builtin.zeroCells (Value.int .i64 0).cells (n + 1 - P) ++ Builtin.zeroCells (Value.int .i64 0).cells (G - (n + 1))) = cur0 at *
        have s0 : cur0.size = G := by
          rw [← hc0, Array.size_append, Array.size_append, size_zeroCells, size_zeroCells, hz0, List.size_toArray, List.length_take, hcl]
          omega
        have t0 : cur0.toList.take P = (iv xs).take P := by
          rw [← hc0, Array.toList_append, Array.toList_append, List.append_assoc, List.take_append_of_le_length (by simp; omega), List.take_of_length_le (by simp; omega)]
        obtain ⟨c1, h1, s1, l1⟩ := heap_setCells_same w.heap.size 3 (0, 0) [.int .i64 x] P (w.alloc (.cells cur0 3)).drew cur0 (heap_alloc_new w _) (by rw [s0, List.length_singleton]; omega)
        obtain ⟨c2, h2, s2, l2⟩ := heap_setCells_same w.heap.size 3 (0, 0) ((iv xs).drop P) (P + 1) ((w.alloc (.cells cur0 3)).drew.setCells w.heap.size P [.int .i64 x]).drew c1 h1 (by rw [s1, s0, List.length_drop, hcl]; omega)
        have b0 : Below w.heap.size w (w.alloc (.cells cur0 3)).drew := ((sm_alloc (fun _ => True) w (.cells cur0 3)).trans (sm_drew _ _)).below (fun _ _ => trivial) (Nat.le_refl _)
        have b1 := below_setCells (Nat.le_refl _) [.int .i64 x] P _ b0
        have b2 : Below w.heap.size w ((w.alloc (.cells cur0 3)).drew.setCells w.heap.size P [.int .i64 x]).drew := ⟨b1.os, b1.tape, b1.output, b1.size, b1.block⟩
        have b3 := below_setCells (Nat.le_refl _) ((iv xs).drop P) (P + 1) _ b2
        refine ⟨_, _, rfl, ⟨by simp [iv]; omega, .inr ⟨w.heap.size, G, c2, rfl, hB, h2, hge, hcm2, by rw [s2, s1, s0, Nat.mul_one], ?_⟩⟩, ⟨b3.os, b3.tape, b3.output, b3.size, fun i hi _ => b3.block i hi⟩, fun ad h => by cases h; exact Or.inr rfl⟩
        have l1a : c1.toList.take (P + 1) = (iv xs).take P ++ [.int .i64 x] := by
          rw [l1, t0, List.take_append_of_le_length (by simp; omega), List.take_of_length_le (by simp; omega)]
        rw [l2, l1a, Nat.mul_one, List.take_append_of_le_length (by simp; omega), List.take_of_length_le (by simp; omega), List.append_assoc, List.singleton_append]
      · obtain rfl : P = n := by omega
        refine (Tryz.slices_Insert_int_end_grow (some ⟨g, 0, none⟩) P c vb 0 1 1 (iv xs) [.int .i64 x] w (by decide) hnc (by omega) (by omega) hcl rfl (fun h => by cases h) (fun a h j v e => by cases h; have := hcs j v e; by_cases h0 : j = 0; (subst h0; exact this); (rw [show (⟨g, 0, none⟩ : Addr).add j = ⟨g, 0 + j, none⟩ by simp [Addr.add, h0]]; exact this)) hvs h1v).mono ?_
        rintro e w' ⟨rfl, rfl⟩
        refine ⟨_, _, rfl, ⟨by simp; omega, .inr ⟨w.heap.size, _, _, rfl, hB, heap_alloc_new w.drew _, hge, hcm2, ?_, ?_⟩⟩, (sm_drew _ w).trans (sm_alloc _ _ _), fun ad h => by cases h; exact Or.inr rfl⟩
        · rw [Array.size_append, size_zeroCells, List.size_toArray, List.length_append, hcl]
          show P + 1 + _ * 1 = _
          omega
        · rw [Nat.mul_one, Array.toList_append, List.take_append_of_le_length (by simp; omega), List.take_of_length_le (by simp; omega), List.take_of_length_le (show (iv xs).length ≤ P by omega), List.drop_of_length_le (show (iv xs).length ≤ P by omega)]
end Go.Proofs.YtleeklcpbflfhaaGreatDoor
namespace Go.Proofs.YtleeklcpbflfhaaGreatDoor
open Go.RowKit Go.Lib Go.Shelf

theorem run_copy_cells2 {P : Program} (w : World) (dT sT ty elem : TypeId) (b o dLen dCap : Nat) (a : Addr) (sLen sCap k : Nat) (cs : List Value)
    (hu : P.underlying dT = some (.slice elem)) (hs : (P.info? elem).map (·.size) = some 2) (hk : k = Nat.min sLen dLen) (hn : cs.length = k * 2)
    (hsrc : ∀ j v, cs[j]? = some v → w.cell? (a.add j) = some v) (hc : ∀ j, j < cs.length → (w.cell? ⟨b, o + j, none⟩).isSome = true) (hf : ∀ j, j < cs.length → w.frozen? ⟨b, o + j, none⟩ = false) (h1 : ∀ v ∈ cs, v.oneCell' = true) :
    (Builtin.copy_ #[dT, sT] ty #[.slice (some ⟨b, o, none⟩) dLen dCap, .slice (some a) sLen sCap]).run P w = .ok (goInt k) (w.setCells b o cs) := by
  have hl := run_loadCells_list (P := P) w a cs hsrc
  have hst := run_storeCells_cells (P := P) b o cs 0 w (by simpa using hc) (by simpa using hf) h1
  cases hq : P.info? elem with
  | none => simp [hq] at hs
  | some i =>
    have hi : i.size = 2 := by simpa [hq] using hs
    simp [Builtin.copy_, run_underlying hu, Builtin.lenOf, Builtin.firstCells, sizeOf, typeInfo, hq, hi, ← hk, ← hn, hl, hst]
theorem info_wd : (Tryz.prog.info? 49).map (fun i => (i.zero, i.size, i.bytes)) = some (some (.agg #[.int .i64 0, .int .i64 0]), 2, 16) := by kernel_rfl
theorem wd_overlaps (w : World) (b off lb cb vb voff la vc : Nat) (hvb : vb ≠ b) (tA tB : TypeId) (kA kB : Nat) (hsa : w.shape? vb = some (tA, kA)) (hsb : w.shape? b = some (tB, kB)) (hkB : kB ≠ 0) (hfa : w.frozen? ⟨vb, voff, none⟩ = false) (hfe : w.frozen? ⟨vb, kA, none⟩ = false) :
    (callFunc 138 #[.slice (some ⟨vb, voff, none⟩) la vc, .slice (some ⟨b, off, none⟩) lb cb]).run Tryz.prog w = .ok (.value (.bool false)) w := by
  rw [run_callFunc_extern Tryz.func138 (by kernel_rfl) (by kernel_rfl) (by kernel_rfl) (e := Extern.SlicesOverlaps.overlaps #[25, 25] #[4]) (by kernel_rfl),
    Lib.run_overlaps_apart w 25 4 49 Tryz.underlying25 2 (Tryz.sizeOf49) ⟨vb, voff, none⟩ ⟨b, off, none⟩ la vc lb cb hvb tA tB kA kB hsa hsb hkB hfa hfe]
  rfl
set_option maxHeartbeats 4000000 in
set_option maxRecDepth 100000 in
theorem wdi_shift (b off n c i vb voff m vc : Nat) (cs vs : List Value) (w : World) (hi : i < n) (hm : 0 < m) (hroom : n + m ≤ c) (hc63 : c ≤ 9223372036854775807) (hvb : vb ≠ b)
    (hcl : cs.length = n * 2) (hvl : vs.length = m * 2)
    (hcs : ∀ j v, cs[j]? = some v → w.cell? ⟨b, off + j, none⟩ = some v) (hsp : ∀ j, j < (n + m) * 2 → (w.cell? ⟨b, off + j, none⟩).isSome = true) (hfz : ∀ j, j < (n + m) * 2 → w.frozen? ⟨b, off + j, none⟩ = false)
    (hvs : ∀ j v, vs[j]? = some v → w.cell? ⟨vb, voff + j, none⟩ = some v) (h1c : ∀ v ∈ cs, v.oneCell' = true) (h1v : ∀ v ∈ vs, v.oneCell' = true)
    (tA tB : TypeId) (kA kB : Nat) (hsa : w.shape? vb = some (tA, kA)) (hsb : w.shape? b = some (tB, kB)) (hkB : kB ≠ 0) (hfa : w.frozen? ⟨vb, voff, none⟩ = false) (hfe : w.frozen? ⟨vb, kA, none⟩ = false) :
    Calls Tryz.prog 103 #[.slice (some ⟨b, off, none⟩) n c, .int .i64 i, .slice (some ⟨vb, voff, none⟩) m vc] w fun e w' =>
      e = .returned (.slice (some ⟨b, off, none⟩) (n + m) c) ∧ w' = (w.drew.setCells b (off + (i + m) * 2) (cs.drop (i * 2))).setCells b (off + i * 2) vs := by
  have mixed : Tryz.prog.follows Departure.mixedOrders = true := by kernel_rfl
  have hz1 : ¬ ((m : Int) = 0) := by omega
  have hz2 : ¬ ((i : Int) = (n : Int)) := by omega
  have hsz : (Tryz.prog.info? 49).map (·.size) = some 2 := by
    obtain ⟨i0, hi0, h0, h1, h2⟩ := info_parts info_wd
    rw [hi0]; simp [h1]
  have hov : ∀ lb cb, (callFunc 138 #[.slice (some ⟨vb, voff, none⟩) m vc, .slice (some ⟨b, off + (i + m) * 2, none⟩) lb cb]).run Tryz.prog w = .ok (.value (.bool false)) w := fun lb cb => wd_overlaps w b _ lb cb vb voff m vc hvb tA tB kA kB hsa hsb hkB hfa hfe
  have hdl : (cs.drop (i * 2)).length = (n - i) * 2 := by rw [List.length_drop, hcl]; omega
  have hw1 : IntKind.i64.wrap ((i : Int) + (m : Int)) = (i : Int) + (m : Int) := by rw [IntKind.wrap_i64]; omega
  have hb1 : (0 : Int) ≤ (i : Int) + (m : Int) := by omega
  have hin : i ≤ n := by omega
  have htn : ((i : Int) + (m : Int)).toNat = i + m := by omega
  have hb2 : ¬ (c = i + m) := by omega
  have hb3 : (i : Int) ≤ (n : Int) + (m : Int) := by omega
  have hb4 : ¬ (c = i) := by omega
  have hcp1 : ∀ ty dc sc, (Builtin.copy_ #[25, 25] ty #[.slice (some ⟨b, off + (i + m) * 2, none⟩) (n + m - (i + m)) dc, .slice (some ⟨b, off + i * 2, none⟩) (n + m - i) sc]).run Tryz.prog w.drew = .ok (goInt ((n - i : Nat) : Int)) (w.drew.setCells b (off + (i + m) * 2) (cs.drop (i * 2))) := fun ty dc sc =>
    run_copy_cells2 w.drew _ _ ty 49 b (off + (i + m) * 2) (n + m - (i + m)) dc ⟨b, off + i * 2, none⟩ (n + m - i) sc (n - i) (cs.drop (i * 2)) Tryz.underlying25 hsz (by simp only [Nat.min_def]; split <;> omega) hdl
      (fun j v hj => by rw [Addr.add_lit, Nat.add_assoc]; exact hcs (i * 2 + j) v (by rwa [List.getElem?_drop] at hj))
      (fun j hj => by rw [Nat.add_assoc]; exact hsp _ (by omega)) (fun j hj => by rw [Nat.add_assoc]; exact hfz _ (by omega)) (fun v hv => h1c v (List.mem_of_mem_drop hv))
  obtain ⟨W1, hW1⟩ : ∃ W1, W1 = w.drew.setCells b (off + (i + m) * 2) (cs.drop (i * 2)) := ⟨_, rfl⟩
  have hsp1 : ∀ k, k < (n + m) * 2 → (W1.cell? ⟨b, off + k, none⟩).isSome = true := fun k hk => by
    rw [hW1]
    exact isSome_setCells b _ _ _ (fun j hj => by rw [Nat.add_assoc]; exact hsp _ (by omega)) _ (hsp k hk)
  have hcp2 : ∀ (W : World), (∀ x, W.cell? x = W1.cell? x) → (∀ x, W.frozen? x = W1.frozen? x) → ∀ ty dc, (Builtin.copy_ #[25, 25] ty #[.slice (some ⟨b, off + i * 2, none⟩) (n + m - i) dc, .slice (some ⟨vb, voff, none⟩) m vc]).run Tryz.prog W = .ok (goInt m) (W.setCells b (off + i * 2) vs) := fun W hWc hWf ty dc =>
    run_copy_cells2 W _ _ ty 49 b (off + i * 2) (n + m - i) dc ⟨vb, voff, none⟩ m vc m vs Tryz.underlying25 hsz (by simp only [Nat.min_def]; split <;> omega) hvl
      (fun j v hj => by
        rw [Addr.add_lit, hWc, hW1, World.cell?_setCells_out b _ _ _ _ (fun h _ => absurd h hvb)]
        exact hvs j v hj)
      (fun j hj => by rw [hWc, Nat.add_assoc]; exact hsp1 _ (by omega)) (fun j hj => by rw [hWf, hW1, World.frozen?_setCells, Nat.add_assoc]; exact hfz _ (by omega)) h1v
  rw [← hW1] at hcp1
  go_enter Tryz.func103, Tryz.ntmps103
  go_wp2_with (simp only [hov])
  go_region_law_o (refine step_copy_runI rfl _ _ 25 25 rfl _ _ (by simp [Act.eval, Act.put]) (by simp [Act.eval, Act.put]) (hcp1 _ _ _) ?_)
  go_wp2_with (at_builtin; refine wpList_copy_runI _ rfl _ _ 25 25 rfl _ _ rfl rfl (hcp2 _ (fun _ => rfl) (fun _ => rfl) _ _) ?_)
  go_ret
  first | exact ⟨rfl, rfl⟩ | exact ⟨rfl, by rw [hW1]⟩
set_option maxHeartbeats 4000000 in
set_option maxRecDepth 100000 in
theorem wdi_end_room (b off n c vb voff m vc : Nat) (vs : List Value) (w : World) (hm : 0 < m) (hroom : n + m ≤ c)
    (hvl : vs.length = m * 2) (hsp : ∀ j, j < m * 2 → (w.cell? ⟨b, off + n * 2 + j, none⟩).isSome = true) (hfz : ∀ j, j < m * 2 → w.frozen? ⟨b, off + n * 2 + j, none⟩ = false)
    (hvs : ∀ j v, vs[j]? = some v → w.cell? ⟨vb, voff + j, none⟩ = some v) (h1v : ∀ v ∈ vs, v.oneCell' = true) :
    Calls Tryz.prog 103 #[.slice (some ⟨b, off, none⟩) n c, .int .i64 n, .slice (some ⟨vb, voff, none⟩) m vc] w fun e w' =>
      e = .returned (.slice (some ⟨b, off, none⟩) (n + m) c) ∧ w' = w.setCells b (off + n * 2) vs := by
  obtain ⟨i0, hi0, h0, h1, h2⟩ := info_parts info_wd
  have hz1 : ¬ ((m : Int) = 0) := by omega
  have hsrc : Src Tryz.prog i0.size 25 (.slice (some ⟨vb, voff, none⟩) m vc) m vs w := by
    rw [h1]
    exact Src.ofSlice w Tryz.underlying25 ⟨vb, voff, none⟩ m vc vs hvl (fun j u hj => by rw [Addr.add_lit]; exact hvs j u hj) h1v
  have hq1 : ∀ j, j < vs.length → (w.cell? ⟨b, off + n * i0.size + j, none⟩).isSome = true := by rw [h1, hvl]; exact hsp
  have hq2 : ∀ j, j < vs.length → w.frozen? ⟨b, off + n * i0.size + j, none⟩ = false := by rw [h1, hvl]; exact hfz
  go_enter Tryz.func103, Tryz.ntmps103
  go_wp2_with (at_builtin; refine wpList_append_room_src _ rfl _ _ 25 25 rfl 49 i0 Tryz.underlying25 hi0 b off n c rfl _ rfl m vs hsrc hroom hq1 hq2 ?_)
  go_ret
  exact ⟨rfl, by first | rfl | rw [h1] | simp [h1]⟩
set_option maxHeartbeats 4000000 in
set_option maxRecDepth 100000 in
theorem wdi_end_grow (base : Option Addr) (n c vb voff m vc : Nat) (cs vs : List Value) (w : World) (hm : 0 < m) (hnc : n ≤ c) (hroom : c < n + m) (hbig : (n + m) * 16 ≤ 140737488355328)
    (hcl : cs.length = n * 2) (hvl : vs.length = m * 2) (hnil : base = none → n = 0)
    (hcs : ∀ a, base = some a → ∀ j v, cs[j]? = some v → w.cell? (a.add j) = some v)
    (hvs : ∀ j v, vs[j]? = some v → w.cell? ⟨vb, voff + j, none⟩ = some v) (h1v : ∀ v ∈ vs, v.oneCell' = true) :
    Calls Tryz.prog 103 #[.slice base n c, .int .i64 n, .slice (some ⟨vb, voff, none⟩) m vc] w fun e w' =>
      e = .returned (.slice (some ⟨w.heap.size, 0, none⟩) (n + m) (grownCap w (n + m) c 49)) ∧
      w' = w.drew.alloc (.cells ((cs ++ vs).toArray ++ Builtin.zeroCells (Value.agg #[.int .i64 0, .int .i64 0]).cells (grownCap w (n + m) c 49 - (n + m))) 49) := by
  obtain ⟨i0, hi0, hz0, hzs, hzb⟩ := info_parts info_wd
  have hz1 : ¬ ((m : Int) = 0) := by omega
  have hsrc : Src Tryz.prog i0.size 25 (.slice (some ⟨vb, voff, none⟩) m vc) m vs w := by
    rw [hzs]
    exact Src.ofSlice w Tryz.underlying25 ⟨vb, voff, none⟩ m vc vs hvl (fun j u hj => by rw [Addr.add_lit]; exact hvs j u hj) h1v
  have hold : (Builtin.firstCells i0.size n (.slice base n c)).run Tryz.prog w.drew = .ok cs.toArray w.drew := by
    rw [hzs]
    cases base with
    | none =>
      have h0 := hnil rfl
      subst h0
      rw [List.length_eq_zero_iff.1 (show cs.length = 0 by simpa using hcl)]
      exact run_firstCells_none w.drew 2 0 0 c
    | some a => exact run_firstCells_some w.drew 2 n a n c cs hcl (fun j v hj => hcs a rfl j v hj)
  have hrun : ∀ ty, (Builtin.append_ #[25, 25] ty #[.slice base n c, .slice (some ⟨vb, voff, none⟩) m vc]).run Tryz.prog w = _ := fun ty =>
    run_append_grow_src w 25 25 ty 49 i0 _ Tryz.underlying25 hi0 hz0 base n c cs hold _ m vs hsrc hroom (by omega) (by rw [hzb]; exact growslice_fits hroom hbig)
  go_enter Tryz.func103, Tryz.ntmps103
  cases base with
  | none =>
    have h0 := hnil rfl
    subst h0
    go_wp2_with (at_builtin; refine Lib.wpList_append_run _ rfl _ _ _ _ rfl _ _ rfl rfl _ _ (hrun _) ?_)
    go_ret
    exact ⟨rfl, rfl⟩
  | some a =>
    obtain ⟨ab, ao, asp⟩ := a
    go_wp2_with (at_builtin; refine Lib.wpList_append_run _ rfl _ _ _ _ rfl _ _ rfl rfl _ _ (hrun _) ?_)
    all_goals (go_ret; exact ⟨rfl, rfl⟩)
set_option maxHeartbeats 4000000 in
set_option maxRecDepth 100000 in
theorem wdi_grow (b off n c i vb voff m vc : Nat) (cs vs : List Value) (w : World) (hi : i < n) (hm : 0 < m) (hnc : n ≤ c) (hroom : c < n + m) (hbig : (n + m) * 16 ≤ 140737488355328)
    (hcl : cs.length = n * 2) (hvl : vs.length = m * 2)
    (hcs : ∀ j v, cs[j]? = some v → w.cell? ⟨b, off + j, none⟩ = some v)
    (hvs : ∀ j v, vs[j]? = some v → w.cell? ⟨vb, voff + j, none⟩ = some v) (h1c : ∀ v ∈ cs, v.oneCell' = true) (h1v : ∀ v ∈ vs, v.oneCell' = true) :
    Calls Tryz.prog 103 #[.slice (some ⟨b, off, none⟩) n c, .int .i64 i, .slice (some ⟨vb, voff, none⟩) m vc] w fun e w' =>
      e = .returned (.slice (some ⟨w.heap.size, 0, none⟩) (n + m) (grownCap w (n + m) c 49)) ∧
      w' = (((w.alloc (.cells ((cs.take (i * 2)).toArray ++ Builtin.zeroCells (Value.agg #[.int .i64 0, .int .i64 0]).cells (n + m - i) ++ Builtin.zeroCells (Value.agg #[.int .i64 0, .int .i64 0]).cells (grownCap w (n + m) c 49 - (n + m))) 49)).drew.setCells w.heap.size (i * 2) vs).drew).setCells w.heap.size ((i + m) * 2) (cs.drop (i * 2)) := by
  obtain ⟨i0, hi0, hz0, hzs, hzb⟩ := info_parts info_wd
  have mixed : Tryz.prog.follows Departure.mixedOrders = true := by kernel_rfl
  have hz1 : ¬ ((m : Int) = 0) := by omega
  have hz2 : ¬ ((i : Int) = (n : Int)) := by omega
  have hz3 : (c : Int) < (n : Int) + (m : Int) := by omega
  have hsz : (Tryz.prog.info? 49).map (·.size) = some 2 := by rw [hi0]; simp [hzs]
  have hbw : b < w.heap.size := block_lt_of_cell (hcs 0 _ (List.getElem?_eq_getElem (by omega)))
  have hvw : vb < w.heap.size := block_lt_of_cell (hvs 0 _ (List.getElem?_eq_getElem (by omega)))
  have hkk : (n : Int) + (m : Int) - (i : Int) = ((n + m - i : Nat) : Int) := by omega
  have hik : i + (n + m - i) = n + m := by omega
  have hold : (Builtin.firstCells i0.size i (.slice (some ⟨b, off, none⟩) i c)).run Tryz.prog w.drew = .ok (cs.take (i * 2)).toArray w.drew := by
    rw [hzs]
    exact run_firstCells_some w.drew 2 i ⟨b, off, none⟩ i c (cs.take (i * 2)) (by rw [List.length_take]; omega) (fun j v hj => by
      rw [Addr.add_lit]
      rw [List.getElem?_take] at hj
      split at hj
      · exact hcs j v hj
      · cases hj)
  have hrz : ∀ ty, (Builtin.append_ #[25, 3] ty #[.slice (some ⟨b, off, none⟩) i c, .int .i64 ((n : Int) + (m : Int) - (i : Int))]).run Tryz.prog w =
      .ok (.slice (some ⟨w.heap.size, 0, none⟩) (n + m) (grownCap w (n + m) c 49)) (w.drew.alloc (.cells ((cs.take (i * 2)).toArray ++ Builtin.zeroCells (Value.agg #[.int .i64 0, .int .i64 0]).cells (n + m - i) ++ Builtin.zeroCells (Value.agg #[.int .i64 0, .int .i64 0]).cells (grownCap w (n + m) c 49 - (n + m))) 49)) := fun ty => by
    have h := Lib.run_append_grow_zeros w 25 3 ty 49 i0 _ .i64 .i64 Tryz.underlying25 Tryz.underlying3 hi0 hz0 (some ⟨b, off, none⟩) i c (cs.take (i * 2)) hold (n + m - i) (by omega) (by omega) (by omega) (by omega) (by rw [hzb]; omega) (by rw [hzb, hik]; exact growslice_fits hroom hbig)
    rw [hik] at h
    rw [hkk]
    exact h
  obtain ⟨G, hG⟩ : ∃ G, G = grownCap w (n + m) c 49 := ⟨_, rfl⟩
  obtain ⟨ROW, hROW⟩ : ∃ ROW : Array Value, ROW = (cs.take (i * 2)).toArray ++ Builtin.zeroCells (Value.agg #[.int .i64 0, .int .i64 0]).cells (n + m - i) ++ Builtin.zeroCells (Value.agg #[.int .i64 0, .int .i64 0]).cells (G - (n + m)) := ⟨_, rfl⟩
  rw [← hG] at hrz ⊢
  rw [← hROW] at hrz ⊢
  have hz2c : (Value.agg #[.int .i64 0, .int .i64 0]).cells.size = 2 := rfl
  have hRl : (n + m) * 2 ≤ ROW.size := by
    rw [hROW, Array.size_append, Array.size_append, size_zeroCells, size_zeroCells, hz2c, List.size_toArray, List.length_take, hcl]
    omega
  obtain ⟨W1, hW1⟩ : ∃ W1, W1 = w.drew.alloc (.cells ROW 49) := ⟨_, rfl⟩
  rw [← hW1] at hrz
  have hN : ∀ j, j < (n + m) * 2 → (W1.cell? ⟨w.heap.size, j, none⟩).isSome = true := fun j hj => by
    rw [hW1, World.cell?_alloc_at (w := w.drew) ROW _ w.heap.size j rfl, Array.getElem?_eq_getElem (by omega)]; rfl
  have hNf : ∀ j, W1.frozen? ⟨w.heap.size, j, none⟩ = false := fun j => by rw [hW1]; exact World.frozen?_alloc_at (w := w.drew) ROW _ w.heap.size j rfl
  have hOb : ∀ j v, w.cell? ⟨b, j, none⟩ = some v → W1.cell? ⟨b, j, none⟩ = some v := fun j v h => by rw [hW1, World.cell?_alloc_past (w := w.drew) _ b j hbw]; exact h
  have hOv : ∀ j v, w.cell? ⟨vb, j, none⟩ = some v → W1.cell? ⟨vb, j, none⟩ = some v := fun j v h => by rw [hW1, World.cell?_alloc_past (w := w.drew) _ vb j hvw]; exact h
  have hcpA : ∀ (W : World), (∀ x, W.cell? x = W1.cell? x) → (∀ x, W.frozen? x = W1.frozen? x) → ∀ ty dc, (Builtin.copy_ #[25, 25] ty #[.slice (some ⟨w.heap.size, i * 2, none⟩) (n + m - i) dc, .slice (some ⟨vb, voff, none⟩) m vc]).run Tryz.prog W = .ok (goInt m) (W.setCells w.heap.size (i * 2) vs) := fun W hWc hWf ty dc =>
    run_copy_cells2 W _ _ ty 49 w.heap.size (i * 2) (n + m - i) dc ⟨vb, voff, none⟩ m vc m vs Tryz.underlying25 hsz (by simp only [Nat.min_def]; split <;> omega) hvl
      (fun j v hj => by rw [Addr.add_lit, hWc]; exact hOv _ v (hvs j v hj))
      (fun j hj => by rw [hWc]; exact hN _ (by omega)) (fun j hj => by rw [hWf]; exact hNf _) h1v
  have hGn : n + m ≤ G := by rw [hG]; exact grownCap_ge w _ _ _
  have hG63 : G ≤ 9223372036854775807 := by
    have := grownCap_le_maxLen w (n + m) c 49 (by unfold maxLen; omega)
    rw [← hG] at this
    unfold maxLen at this
    omega
  have hGi : ¬ (G = i) := by omega
  have hGim : ¬ (G = i + m) := by omega
  have hci : ¬ (c = i) := by omega
  have hbN : b ≠ w.heap.size := by omega
  have hdl : (cs.drop (i * 2)).length = (n - i) * 2 := by rw [List.length_drop, hcl]; omega
  have hcpB : ∀ (W : World), (∀ x, W.cell? x = (W1.setCells w.heap.size (i * 2) vs).cell? x) → (∀ x, W.frozen? x = (W1.setCells w.heap.size (i * 2) vs).frozen? x) → ∀ ty dc sc, (Builtin.copy_ #[25, 25] ty #[.slice (some ⟨w.heap.size, (i + m) * 2, none⟩) (n + m - (i + m)) dc, .slice (some ⟨b, off + i * 2, none⟩) (n - i) sc]).run Tryz.prog W = .ok (goInt ((n - i : Nat) : Int)) (W.setCells w.heap.size ((i + m) * 2) (cs.drop (i * 2))) := fun W hWc hWf ty dc sc =>
    run_copy_cells2 W _ _ ty 49 w.heap.size ((i + m) * 2) (n + m - (i + m)) dc ⟨b, off + i * 2, none⟩ (n - i) sc (n - i) (cs.drop (i * 2)) Tryz.underlying25 hsz (by simp only [Nat.min_def]; split <;> omega) hdl
      (fun j v hj => by
        rw [Addr.add_lit, hWc, World.cell?_setCells_out _ _ _ _ _ (fun h _ => absurd h hbN), Nat.add_assoc]
        exact hOb _ v (hcs (i * 2 + j) v (by rwa [List.getElem?_drop] at hj)))
      (fun j hj => by rw [hWc]; exact isSome_setCells _ _ _ _ (fun t ht => hN _ (by omega)) _ (hN _ (by omega)))
      (fun j hj => by rw [hWf, World.frozen?_setCells]; exact hNf _) (fun v hv => h1c v (List.mem_of_mem_drop hv))
  subst hW1
  have hE1 : ∀ x, ((w.alloc (.cells ROW 49)).drew).cell? x = (w.drew.alloc (.cells ROW 49)).cell? x := fun x => rfl
  have hE2 : ∀ x, ((w.alloc (.cells ROW 49)).drew).frozen? x = (w.drew.alloc (.cells ROW 49)).frozen? x := fun x => rfl
  have hF1 : ∀ x, (((w.alloc (.cells ROW 49)).drew.setCells w.heap.size (i * 2) vs).drew).cell? x = ((w.drew.alloc (.cells ROW 49)).setCells w.heap.size (i * 2) vs).cell? x := fun x => rfl
  have hF2 : ∀ x, (((w.alloc (.cells ROW 49)).drew.setCells w.heap.size (i * 2) vs).drew).frozen? x = ((w.drew.alloc (.cells ROW 49)).setCells w.heap.size (i * 2) vs).frozen? x := fun x => rfl
  have hw1 : IntKind.i64.wrap ((i : Int) + (m : Int)) = (i : Int) + (m : Int) := by rw [IntKind.wrap_i64]; omega
  have hb1 : (0 : Int) ≤ (i : Int) + (m : Int) := by omega
  have hin : i ≤ n := by omega
  have htn : ((i : Int) + (m : Int)).toNat = i + m := by omega
  have hb3 : (i : Int) ≤ (n : Int) := by omega
  clear hkk hik hold hROW hG hRl
  go_enter Tryz.func103, Tryz.ntmps103
  go_wp2_with (first
    | (at_builtin; refine Lib.wpList_append_run _ rfl _ _ _ _ rfl _ _ rfl rfl _ _ (hrz _) ?_)
    | (at_builtin; refine wpList_copy_runI _ rfl _ _ 25 25 rfl _ _ rfl rfl (hcpA _ hE1 hE2 _ _) ?_)
    | (at_builtin; refine wpList_copy_runI _ rfl _ _ 25 25 rfl _ _ rfl rfl (hcpB _ (fun _ => rfl) (fun _ => rfl) _ _ _) ?_))
  go_region_law_o (refine step_copy_runI rfl _ _ 25 25 rfl (.slice (some ⟨w.heap.size, (i + m) * 2, none⟩) (n + m - (i + m)) (G - (i + m))) (.slice (some ⟨b, off + i * 2, none⟩) (n - i) (c - i)) (by simp [Act.eval, Act.put]) (by simp [Act.eval, Act.put]) (hcpB _ hF1 hF2 3 (G - (i + m)) (c - i)) ?_)
  go_wp2
  go_ret
  exact ⟨rfl, rfl⟩
end Go.Proofs.YtleeklcpbflfhaaGreatDoor
namespace Go.Proofs.YtleeklcpbflfhaaGreatDoor
open Go.RowKit

theorem cel2_take {α : Type} (f g : α → Value) : ∀ (ps : List α) (k : Nat), (cel2 f g ps).take (k * 2) = cel2 f g (ps.take k) ∧ (cel2 f g ps).drop (k * 2) = cel2 f g (ps.drop k)
  | [], k => by simp [cel2]
  | p :: t, 0 => by simp [cel2]
  | p :: t, k + 1 => by
    have ih := cel2_take f g t k
    have e : cel2 f g (p :: t) = f p :: g p :: cel2 f g t := rfl
    rw [e, show (k + 1) * 2 = k * 2 + 1 + 1 by omega, List.take_succ_cons, List.take_succ_cons, List.drop_succ_cons, List.drop_succ_cons, ih.1, ih.2]
    exact ⟨rfl, rfl⟩
theorem cel2_cons {α : Type} (f g : α → Value) (p : α) (t : List α) : cel2 f g (p :: t) = f p :: g p :: cel2 f g t := rfl
theorem own_shift2 {w : World} {B g n c i : Nat} {e : TypeId} {cur : Array Value} {xs : List Value} {u v : Value} (hB : B ≤ g) (hh : w.heap[g]? = some (.cells cur e (0, 0))) (hnc : n + 1 ≤ c) (hc : c ≤ maxLen) (hs : cur.size = c * 2) (hx : cur.toList.take (n * 2) = xs) (hi : i ≤ n) (hl : xs.length = n * 2) :
    World.ownsRow ((w.setCells g ((i + 1) * 2) (xs.drop (i * 2))).setCells g (i * 2) [u, v]) B e 2 (.slice (some ⟨g, 0, none⟩) (n + 1) c) (n + 1) (xs.take (i * 2) ++ u :: v :: xs.drop (i * 2)) := by
  obtain ⟨c1, h1, s1, l1⟩ := heap_setCells_same g e (0, 0) (xs.drop (i * 2)) ((i + 1) * 2) w cur hh (by rw [List.length_drop]; omega)
  obtain ⟨c2, h2, s2, l2⟩ := heap_setCells_same g e (0, 0) [u, v] (i * 2) _ c1 h1 (by rw [s1]; show i * 2 + 2 ≤ _; omega)
  refine ⟨by simp; omega, .inr ⟨g, c, c2, rfl, hB, h2, hnc, hc, by rw [s2, s1, hs], ?_⟩⟩
  have ht : cur.toList.take (i * 2) = xs.take (i * 2) := by rw [← hx, List.take_take, Nat.min_eq_left (by omega)]
  have hcl : cur.toList.length = c * 2 := by rw [Array.length_toList]; omega
  have l1a : c1.toList.take (i * 2) = xs.take (i * 2) := by
    rw [l1, List.append_assoc, List.take_append_of_le_length (by rw [List.length_take]; omega), List.take_take, Nat.min_eq_left (by omega), ht]
  have l1b : c1.toList.drop (i * 2 + 2) = xs.drop (i * 2) ++ cur.toList.drop ((n + 1) * 2) := by
    rw [l1, List.append_assoc, List.drop_append_of_le_length (by rw [List.length_take]; omega), List.drop_of_length_le (by rw [List.length_take]; omega), List.nil_append, List.length_drop]
    congr 2
    omega
  rw [l2, l1a, show ([u, v] : List Value).length = 2 from rfl, l1b]
  have e1 : xs.take (i * 2) ++ [u, v] ++ (xs.drop (i * 2) ++ cur.toList.drop ((n + 1) * 2)) = (xs.take (i * 2) ++ u :: v :: xs.drop (i * 2)) ++ cur.toList.drop ((n + 1) * 2) := by simp
  rw [e1, List.take_append_of_le_length (by simp; omega), List.take_of_length_le (by simp; omega)]
theorem cel2_one (l : List (Int × Int)) : ∀ v ∈ cel2 dv1 dv2 l, v.oneCell' = true := by
  intro v hv
  obtain ⟨x, _, h⟩ := List.mem_flatMap.1 hv
  rcases List.mem_cons.1 h with rfl | h
  · rfl
  · rw [List.mem_singleton] at h
    rw [h]; rfl
set_option maxHeartbeats 1000000 in
theorem insW_any (B : Nat) (A : Option Addr) (n c vb P : Nat) (xs : List (Int × Int)) (x1 x2 : Int) (w : World) (hB : B ≤ w.heap.size) (hO : Own2 w B 49 A n c (cel2 dv1 dv2 xs)) (hv : w.heap[vb]? = some (.cells #[.int .i64 x1, .int .i64 x2] 49 (0, 0))) (hne : Oth A vb) (hP : P ≤ n) (hn : n ≤ 1000000) :
    Calls Tryz.prog 103 #[.slice A n c, .int .i64 (P : Int), .slice (some ⟨vb, 0, none⟩) 1 1] w fun e w' => ∃ A' c', e = .returned (.slice A' (n + 1) c') ∧ Own2 w' B 49 A' (n + 1) c' (cel2 dv1 dv2 (xs.take P ++ (x1, x2) :: xs.drop P)) ∧ Sm (Oth A) w w' ∧ (∀ ad, A' = some ad → A = some ad ∨ ad.block = w.heap.size) := by
  have hmx : maxLen = 9223372036854775807 := by decide
  have hcl : (cel2 dv1 dv2 xs).length = n * 2 := hO.1
  have hvs : ∀ j v, ([.int .i64 x1, .int .i64 x2] : List Value)[j]? = some v → w.cell? ⟨vb, 0 + j, none⟩ = some v := fun j v h => by
    rw [Nat.zero_add, heap_cell hv]
    rw [← h, ← Array.getElem?_toList]
  have h1v : ∀ v ∈ ([.int .i64 x1, .int .i64 x2] : List Value), v.oneCell' = true := fun v h => by
    rcases List.mem_cons.1 h with rfl | h
    · rfl
    · rw [List.mem_singleton] at h; rw [h]; rfl
  have hiv : cel2 dv1 dv2 (xs.take P ++ (x1, x2) :: xs.drop P) = (cel2 dv1 dv2 xs).take (P * 2) ++ .int .i64 x1 :: .int .i64 x2 :: (cel2 dv1 dv2 xs).drop (P * 2) := by
    rw [cel2_app, cel2_cons, (cel2_take dv1 dv2 xs P).1, (cel2_take dv1 dv2 xs P).2]
  rw [hiv]
  have h1c := cel2_one xs
  rcases hO.2 with ⟨he, rfl⟩ | ⟨g, cap, cur, he, hb, hh, hnc, hcm, hsz, hx⟩
  · obtain ⟨rfl, _, rfl⟩ : A = none ∧ (0 : Nat) = 0 ∧ c = 0 := by cases he; exact ⟨rfl, rfl, rfl⟩
    obtain rfl : P = 0 := by omega
    have hx0 : cel2 dv1 dv2 xs = [] := List.eq_nil_of_length_eq_zero (by omega)
    rw [hx0]
    refine (wdi_end_grow none 0 0 vb 0 1 1 [] [.int .i64 x1, .int .i64 x2] w (by decide) (by decide) (by decide) (by decide) rfl rfl (fun _ => rfl) (fun a h => by cases h) hvs h1v).mono ?_
    rintro e w' ⟨rfl, rfl⟩
    have hge := grownCap_ge w (0 + 1) 0 49
    have hcm := grownCap_le_maxLen w (0 + 1) 0 49 (by decide)
    refine ⟨_, _, rfl, ⟨rfl, .inr ⟨w.heap.size, _, _, rfl, hB, heap_alloc_new w.drew _, hge, hcm, ?_, ?_⟩⟩, (sm_drew _ w).trans (sm_alloc _ _ _), fun ad h => by cases h; exact Or.inr rfl⟩
    · rw [Array.size_append, size_zeroCells]
      show 2 + _ * 2 = _
      omega
    · simp
  · obtain ⟨rfl, _, rfl⟩ : A = some ⟨g, 0, none⟩ ∧ n = n ∧ c = cap := by cases he; exact ⟨rfl, rfl, rfl⟩
    have hvg : vb ≠ g := hne _ rfl
    have hK : ¬ Oth (some ⟨g, 0, none⟩) g := fun h => h _ rfl rfl
    generalize hC : cel2 dv1 dv2 xs = C at *
    have hcs : ∀ j v, C[j]? = some v → w.cell? ⟨g, 0 + j, none⟩ = some v := fun j v h => by
      rw [Nat.zero_add, heap_cell hh, ← Array.getElem?_toList]
      rw [← hx, List.getElem?_take] at h
      split at h
      · exact h
      · cases h
    have hcl2 : cur.toList.length = c * 2 := by rw [Array.length_toList]; exact hsz
    by_cases hr : n + 1 ≤ c
    · have hsp : ∀ j, j < (n + 1) * 2 → (w.cell? ⟨g, 0 + j, none⟩).isSome = true := fun j hj => by
        rw [Nat.zero_add, heap_cell hh, Array.getElem?_eq_getElem (by omega)]
        rfl
      have hfz : ∀ j, j < (n + 1) * 2 → w.frozen? ⟨g, 0 + j, none⟩ = false := fun j hj => heap_free hh _
      by_cases hPn : P < n
      · refine (wdi_shift g 0 n c P vb 0 1 1 C [.int .i64 x1, .int .i64 x2] w hPn (by decide) hr (by omega) hvg hcl rfl hcs hsp hfz hvs h1c h1v 49 49 _ _ (heap_shape hv) (heap_shape hh) (by rw [hsz]; omega) (heap_free hv _) (heap_free hv _)).mono ?_
        rintro e w' ⟨rfl, rfl⟩
        rw [Nat.zero_add, Nat.zero_add]
        exact ⟨_, _, rfl, own_shift2 (w := w.drew) hb hh hr hcm hsz hx hP hcl, ((sm_drew _ w).trans (sm_setCells hK _ _ _)).trans (sm_setCells hK _ _ _), fun ad h => Or.inl h⟩
      · obtain rfl : P = n := by omega
        refine (wdi_end_room g 0 P c vb 0 1 1 [.int .i64 x1, .int .i64 x2] w (by decide) hr rfl (fun j hj => by rw [show 0 + P * 2 + j = 0 + (P * 2 + j) by omega]; exact hsp _ (by omega)) (fun j hj => heap_free hh _) hvs h1v).mono ?_
        rintro e w' ⟨rfl, rfl⟩
        rw [Nat.zero_add]
        have h := own_shift2 (w := w) (u := .int .i64 x1) (v := .int .i64 x2) hb hh hr hcm hsz hx hP hcl
        rw [List.drop_of_length_le (by omega)] at h ⊢
        exact ⟨_, _, rfl, h, sm_setCells hK _ _ _, fun ad h => Or.inl h⟩
    · have hge := grownCap_ge w (n + 1) c 49
      have hcm2 := grownCap_le_maxLen w (n + 1) c 49 (by omega)
      by_cases hPn : P < n
      · refine (wdi_grow g 0 n c P vb 0 1 1 C [.int .i64 x1, .int .i64 x2] w hPn (by decide) hnc (by omega) (by omega) hcl rfl hcs hvs h1c h1v).mono ?_
        rintro e w' ⟨rfl, rfl⟩
        generalize hG : grownCap w (n + 1) c 49 = G at *
        have hz0 : (Value.agg #[.int .i64 0, .int .i64 0]).cells.size = 2 := rfl
        generalize hc0 : ((C.take (P * 2)).toArray ++ Builtin.zeroCells (Value.agg #[.int .i64 0, .int .i64 0]).cells (n + 1 - P) ++ Builtin.zeroCells (Value.agg #[.int .i64 0, .int .i64 0]).cells (G - (n + 1))) = cur0 at *
        have s0 : cur0.size = G * 2 := by
          rw [← hc0, Array.size_append, Array.size_append, size_zeroCells, size_zeroCells, hz0, List.size_toArray, List.length_take, hcl]
          omega
        have t0 : cur0.toList.take (P * 2) = C.take (P * 2) := by
          rw [← hc0, Array.toList_append, Array.toList_append, List.append_assoc, List.take_append_of_le_length (by simp; omega), List.take_of_length_le (by simp; omega)]
        obtain ⟨c1, h1, s1, l1⟩ := heap_setCells_same w.heap.size 49 (0, 0) [.int .i64 x1, .int .i64 x2] (P * 2) (w.alloc (.cells cur0 49)).drew cur0 (heap_alloc_new w _) (by rw [s0]; show P * 2 + 2 ≤ _; omega)
        obtain ⟨c2, h2, s2, l2⟩ := heap_setCells_same w.heap.size 49 (0, 0) (C.drop (P * 2)) ((P + 1) * 2) ((w.alloc (.cells cur0 49)).drew.setCells w.heap.size (P * 2) [.int .i64 x1, .int .i64 x2]).drew c1 h1 (by rw [s1, s0, List.length_drop, hcl]; omega)
        have b0 : Below w.heap.size w (w.alloc (.cells cur0 49)).drew := ((sm_alloc (fun _ => True) w (.cells cur0 49)).trans (sm_drew _ _)).below (fun _ _ => trivial) (Nat.le_refl _)
        have b1 := below_setCells (Nat.le_refl _) [.int .i64 x1, .int .i64 x2] (P * 2) _ b0
        have b2 : Below w.heap.size w ((w.alloc (.cells cur0 49)).drew.setCells w.heap.size (P * 2) [.int .i64 x1, .int .i64 x2]).drew := ⟨b1.os, b1.tape, b1.output, b1.size, b1.block⟩
        have b3 := below_setCells (Nat.le_refl _) (C.drop (P * 2)) ((P + 1) * 2) _ b2
        refine ⟨_, _, rfl, ⟨by simp; omega, .inr ⟨w.heap.size, G, c2, rfl, hB, h2, hge, hcm2, by rw [s2, s1, s0], ?_⟩⟩, ⟨b3.os, b3.tape, b3.output, b3.size, fun i hi _ => b3.block i hi⟩, fun ad h => by cases h; exact Or.inr rfl⟩
        have l1a : c1.toList.take ((P + 1) * 2) = C.take (P * 2) ++ [.int .i64 x1, .int .i64 x2] := by
          rw [l1, t0, List.take_append_of_le_length (by simp; omega), List.take_of_length_le (by simp; omega)]
        rw [l2, l1a, List.take_append_of_le_length (by simp; omega), List.take_of_length_le (by simp; omega), List.append_assoc]
        rfl
      · obtain rfl : P = n := by omega
        refine (wdi_end_grow (some ⟨g, 0, none⟩) P c vb 0 1 1 C [.int .i64 x1, .int .i64 x2] w (by decide) hnc (by omega) (by omega) hcl rfl (fun h => by cases h) (fun a h j v e => by cases h; have := hcs j v e; by_cases h0 : j = 0; (subst h0; exact this); (rw [show (⟨g, 0, none⟩ : Addr).add j = ⟨g, 0 + j, none⟩ by simp [Addr.add, h0]]; exact this)) hvs h1v).mono ?_
        rintro e w' ⟨rfl, rfl⟩
        refine ⟨_, _, rfl, ⟨by simp; omega, .inr ⟨w.heap.size, _, _, rfl, hB, heap_alloc_new w.drew _, hge, hcm2, ?_, ?_⟩⟩, (sm_drew _ w).trans (sm_alloc _ _ _), fun ad h => by cases h; exact Or.inr rfl⟩
        · rw [Array.size_append, size_zeroCells, List.size_toArray, List.length_append, hcl]
          show P * 2 + 2 + _ * 2 = _
          omega
        · rw [Array.toList_append, List.take_append_of_le_length (by simp; omega), List.take_of_length_le (by simp; omega), List.take_of_length_le (show C.length ≤ P * 2 by omega), List.drop_of_length_le (show C.length ≤ P * 2 by omega)]
end Go.Proofs.YtleeklcpbflfhaaGreatDoor
