/- The texts FdRow, LnRead, TrRead, one behind the other. -/
import Derived.Test.YtbfngdpdgmgfpaaDoorRows
import Derived.Test.YtbfngdpdgmgfpaaDoorMB
import Derived.Deep.Strs
import Derived.Lib.LaidU8
import Derived.Stop.LaidErr
import Derived.SizedLaws
import Derived.ProofKit
import Derived.Carry
import Derived.ChangeMaps5
import Derived.Deep.SlicePairs
import Derived.Lib.SmallJoins
import Derived.Test.YtbfngdpdgmgfpaaDoorMD
namespace Go.Proofs.YtbfngdpdgmgfpaaDoor
open Go.RowKit Go.ChangeShapes Go.ChangeAt Go.WideShapes

theorem u8x : U8Extra Tryd.prog Tryd.lays196_ren :=
  ⟨by kernel_rfl, by kernel_rfl, by kernel_rfl, by kernel_rfl, by kernel_rfl, by kernel_rfl, by kernel_rfl⟩
/- the two tables, cell by cell, where ValidString is laid -/
open Go.Lib Go.Shelf in
theorem tab_first {W : World} (h : VarReads Tryd.prog W "unicode/utf8.first" firstData) (c : Nat) (hc : c < 256) : W.cell? ⟨0, c, none⟩ = some (.int .u8 (firstT c : Int)) := by
  obtain ⟨g, t, cs, fuel, p, hg, hty, hvar, hd⟩ := h
  have eg : g = 0 := Option.some.inj (hg.symm.trans (show Tryd.prog.globalNamed "unicode/utf8.first" = some 0 by kernel_rfl))
  subst eg
  have et : t = Tryd.lays196_ren.t 119 := Option.some.inj (hty.symm.trans u8x.y3)
  subst et
  have key := cells_of_tab Tryd.lays196.t119 Tryd.lays196.t5 u8x.c5 u8x.c119 hd
  rw [World.var?_cell hg hvar c, ← Array.getElem?_toList, key]
  simp [firstTab, hc]
open Go.Lib Go.Shelf in
theorem tab_accept {W : World} (h : VarReads Tryd.prog W "unicode/utf8.acceptRanges" acceptData) (i : Nat) (hi : i < 16) :
    W.cell? ⟨1, 2 * i, none⟩ = some (.int .u8 (accLo i : Int)) ∧ W.cell? ⟨1, 2 * i + 1, none⟩ = some (.int .u8 (accHi i : Int)) := by
  obtain ⟨g, t, cs, fuel, p, hg, hty, hvar, hd⟩ := h
  have eg : g = 1 := Option.some.inj (hg.symm.trans (show Tryd.prog.globalNamed "unicode/utf8.acceptRanges" = some 1 by kernel_rfl))
  subst eg
  have et : t = Tryd.lays196_ren.t 139 := Option.some.inj (hty.symm.trans u8x.y4)
  subst et
  obtain ⟨fuel2, d, q, hdi, he⟩ := array_elem Tryd.lays196.t139 hd i hi
  have hd2 : d = .agg ([(accLo i : Int), (accHi i : Int)].map fun z => .lit (.int .u8 z)) := by
    rw [List.getElem?_map, List.getElem?_range hi] at hdi
    exact (Option.some.inj hdi).symm
  subst hd2
  rw [u8x.c138] at he
  have two := ints_of_struct Tryd.lays196.t138 (k := .u8) (fun j f hj => by
    rcases j with _ | _ | j
    · have := hj; simp at this; subst this; exact ⟨Tryd.lays196.t5, rfl, u8x.c5⟩
    · have := hj; simp at this; subst this; exact ⟨Tryd.lays196.t5, rfl, u8x.c5⟩
    · simp at hj) (by rw [u8x.c138]; rfl) he
  have z0 : cs.toList[i * 2]? = some (.int .u8 (accLo i : Int)) := by
    have := congrArg (fun l : List Value => l[0]?) two
    simpa [List.getElem?_take, List.getElem?_drop] using this
  have z1 : cs.toList[i * 2 + 1]? = some (.int .u8 (accHi i : Int)) := by
    have := congrArg (fun l : List Value => l[1]?) two
    simpa [List.getElem?_take, List.getElem?_drop] using this
  rw [World.var?_cell hg hvar (2 * i), World.var?_cell hg hvar (2 * i + 1), ← Array.getElem?_toList, ← Array.getElem?_toList, Nat.mul_comm 2 i]
  exact ⟨z0, z1⟩
theorem laid_first : (Rows.laid_unicode_utf8_first : DataW Unit) = Lib.firstData := by kernel_rfl
theorem laid_accept : (Rows.laid_unicode_utf8_acceptRanges : DataW Unit) = Lib.acceptData := by kernel_rfl
theorem tab_of_laid {W : World} (h : laidMet Tryd.prog [("unicode/utf8.acceptRanges", Rows.laid_unicode_utf8_acceptRanges), ("unicode/utf8.first", Rows.laid_unicode_utf8_first)] W) : Tab W := by
  rw [laid_first, laid_accept] at h
  exact ⟨fun c hc => tab_first (Lib.laidMet.reads h (by simp)) c hc, fun i hi => tab_accept (Lib.laidMet.reads h (by simp)) i hi⟩

theorem weigh {H : Type} {P : Program} {ts : List TypeId} {ds : List (DataW H)} (h : (DataW.weightsEach P ts ds).all (· ≤ reachBytes) = true) {j : Nat} {t : TypeId} {d : DataW H} (ht : ts[j]? = some t) (hd : ds[j]? = some d) :
    ∀ n ∈ d.weights P t, n ≤ reachBytes := fun n hn => of_decide_eq_true (List.all_eq_true.1 h n (DataW.weights_mem_each ht hd n hn))
theorem weighAll {H : Type} {P : Program} {e : TypeId} (l : List (DataW H)) (d : DataW H) (hd : d ∈ l) : ∀ n ∈ d.weights P e, n ∈ DataW.weightsAll P e l := by
  induction l with
  | nil => cases hd
  | cons x l ih =>
    intro n hn
    simp only [DataW.weightsAll, List.mem_append]
    rcases List.mem_cons.1 hd with rfl | h
    · exact .inl hn
    · exact .inr (ih h n hn)
theorem laidOut8 : laidOutB Tryd.prog = true := by kernel_rfl
theorem cellsStr : Tryd.prog.cellsOf 9 = 1 := by kernel_rfl
theorem bytesStr : Tryd.prog.bytesOf 9 = 16 := by kernel_rfl
theorem reach8 : reachBytes = 140737488351232 := by decide
/- a list of texts that came in -/
set_option maxRecDepth 100000 in
theorem read_strs {H : Type} {enc : TypeId × Value → H} {W : World} {base : Nat} {v : Value} {d : DataW H} {p : List MemPlace}
    (h : DataW.Trod enc Tryd.prog W 0 (fun _ => true) true 60 v d p) (hok : Value.okWide Tryd.prog W .any base 60 v) (hw : ∀ n ∈ d.weights Tryd.prog 60, n ≤ reachBytes) :
    ∃ A n c ls, v = .slice A n c ∧ Strs W W.heap.size A n ls ∧ n ≤ 140737488355328 ∧ ∀ l ∈ ls, l.length ≤ 140737488355328 := by
  obtain ⟨a0, len0, cap0, rfl⟩ := okWide_slice Tryd.underlying60 hok
  obtain ⟨fuel, hf⟩ := h
  rcases Deep.open_strs Tryd.underlying60 Tryd.underlying9 cellsStr hf with ⟨hc, _⟩ | ⟨a, len, cap, m, Sx, hc, _, hl, hm, hmm, hx, hcell⟩
  · simp [Value.cells] at hc
    obtain ⟨rfl, rfl, rfl⟩ := hc
    exact ⟨none, 0, 0, [], rfl, Strs.nil _ _ _, by omega, by simp⟩
  · simp [Value.cells] at hc
    obtain ⟨rfl, rfl, rfl⟩ := hc
    simp only [Prod.mk.injEq] at hx
    obtain ⟨rfl, rfl⟩ := hx
    have hlm : len0 ≤ m := by rw [hmm]; split <;> omega
    simp only [DataW.weights, Tryd.underlying60, List.mem_cons, List.mem_append] at hw
    refine ⟨some a, len0, cap0, (List.range len0).map fun i => (Sx i).data.toList, rfl, ⟨by simp, fun hp => ⟨a, rfl, ?_, fun j u hu => ?_⟩⟩, ?_, ?_⟩
    · have := World.block_lt_of_cell? _ _ (hcell 0 (by omega)).1
      rwa [add_block] at this
    · have hj : j < len0 := by
        have := (List.getElem?_eq_some_iff.1 hu).1
        simpa using this
      rw [List.getElem?_map, List.getElem?_range hj] at hu
      simp only [Option.map_some, Option.some.injEq] at hu
      subst hu
      exact (hcell j (by omega)).1
    · have := hw _ (.inl rfl)
      rw [bytesStr, reach8] at this
      simp only [List.length_map, List.length_range] at this
      omega
    · intro l hl2
      obtain ⟨i, hi, rfl⟩ := List.mem_map.1 hl2
      have := hw (Sx i).data.toList.length (.inr (.inl (weighAll _ (.lit (.string (Sx i).data.toList)) (List.mem_map.2 ⟨i, hi, rfl⟩) _ (by simp [DataW.weights]))))
      rw [reach8] at this
      omega
/- a text that came in -/
set_option maxRecDepth 100000 in
theorem read_str {H : Type} {enc : TypeId × Value → H} {W : World} {base : Nat} {v : Value} {d : DataW H} {p : List MemPlace}
    (h : DataW.Trod enc Tryd.prog W 0 (fun _ => true) true 9 v d p) (hok : Value.okWide Tryd.prog W .any base 9 v) (hw : ∀ n ∈ d.weights Tryd.prog 9, n ≤ reachBytes) :
    ∃ s : ByteArray, v = .string s ∧ s.size ≤ 140737488355328 := by
  obtain ⟨s, rfl, rfl, rfl, _⟩ := Go.ChangeMaps.open_string Tryd.underlying9 hok h
  refine ⟨s, rfl, ?_⟩
  have := hw s.data.toList.length (by simp [DataW.weights])
  rw [reach8] at this
  rw [Lib.size_eq]; omega
/- the row's 'post' of a law that turns nothing -/
theorem post_of_gr2 {H : Type} {enc : TypeId × Value → H} {P : Program} {f : Func} {s : ChangeSpec} {apart fresh handsOn : Bool} {W W' : World} {args : Array Value} {v : Value} {ds gs : List (DataW H)} {before pa : List MemPlace}
    (hW : DataW.Whole enc P f.params.toList s.vars apart W args.toList ds gs before)
    (hres : DataW.TrodAll enc P W' (match fresh with | true => W.heap.size | false => 0) (fun _ => false) handsOn f.resultTypes.toList (v.resultList f.resultTypes.size) (s.fn H (ds ++ gs)).results [])
    (hargs : DataW.TrodAll enc P W' 0 (fun b => decide (b < W.heap.size)) true f.params.toList args.toList (s.fn H (ds ++ gs)).args pa)
    (hvars : DataW.TrodVars enc P W' (fun b => decide (b < W.heap.size)) s.vars (s.fn H (ds ++ gs)).vars []) (hg : Gr W W') :
    s.post enc P f apart fresh handsOn false W args v W' :=
  ⟨ds, gs, before, [], pa, [], hW, hres, hargs, hvars, hg.below.frame _, fun h => by cases h⟩
end Go.Proofs.YtbfngdpdgmgfpaaDoor
namespace Go.Proofs.YtbfngdpdgmgfpaaDoor
open Go.RowKit Go.ChangeShapes Go.ChangeAt Go.WideShapes

theorem cellsPar : Tryd.prog.cellsOf 81 = 2 := by kernel_rfl
theorem bytesPar : Tryd.prog.bytesOf 81 = 40 := by kernel_rfl
theorem cellsSl : Tryd.prog.cellsOf 60 = 1 := by kernel_rfl
theorem add_two (a : Addr) (i : Nat) : a.add (i * 2 + 1) = ⟨(a.add (i * 2)).block, (a.add (i * 2)).off + 1, none⟩ := by
  rw [← Deep.add_add]
  rfl
/- a list of texts, from its cell -/
set_option maxRecDepth 100000 in
theorem cell_strs {H : Type} {enc : TypeId × Value → H} {W : World} {fuel : Nat} {v : Value} {x : DataW H × List MemPlace}
    (hf : DataW.trod enc Tryd.prog W 0 (fun _ => true) true fuel 60 [v] = some x) (hw : ∀ n ∈ x.1.weights Tryd.prog 60, n ≤ reachBytes) :
    ∃ A n c ls, v = .slice A n c ∧ Strs W W.heap.size A n ls ∧ n * 16 ≤ 140737488355328 ∧ ∀ l ∈ ls, l.length ≤ 140737488355328 := by
  rcases Deep.open_strs Tryd.underlying60 Tryd.underlying9 cellsStr hf with ⟨hc, _⟩ | ⟨a, len0, cap0, m, Sx, hc, _, hl, hm, hmm, rfl, hcell⟩
  · simp at hc
    subst hc
    exact ⟨none, 0, 0, [], rfl, Strs.nil _ _ _, by omega, by simp⟩
  · simp at hc
    subst hc
    have hlm : len0 ≤ m := by rw [hmm]; split <;> omega
    simp only [DataW.weights, Tryd.underlying60, List.mem_cons, List.mem_append] at hw
    refine ⟨some a, len0, cap0, (List.range len0).map fun i => (Sx i).data.toList, rfl, ⟨by simp, fun hp => ⟨a, rfl, ?_, fun j u hu => ?_⟩⟩, ?_, ?_⟩
    · have := World.block_lt_of_cell? _ _ (hcell 0 (by omega)).1
      rwa [add_block] at this
    · have hj : j < len0 := by
        have := (List.getElem?_eq_some_iff.1 hu).1
        simpa using this
      rw [List.getElem?_map, List.getElem?_range hj] at hu
      simp only [Option.map_some, Option.some.injEq] at hu
      subst hu
      exact (hcell j (by omega)).1
    · have := hw _ (.inl rfl)
      rw [bytesStr, reach8] at this
      simp only [List.length_map, List.length_range] at this
      omega
    · intro l hl2
      obtain ⟨i, hi, rfl⟩ := List.mem_map.1 hl2
      have := hw (Sx i).data.toList.length (.inr (.inl (weighAll _ (.lit (.string (Sx i).data.toList)) (List.mem_map.2 ⟨i, hi, rfl⟩) _ (by simp [DataW.weights]))))
      rw [reach8] at this
      omega
set_option maxRecDepth 100000 in
theorem cell_str {H : Type} {enc : TypeId × Value → H} {W : World} {fuel : Nat} {v : Value} {x : DataW H × List MemPlace}
    (hf : DataW.trod enc Tryd.prog W 0 (fun _ => true) true fuel 9 [v] = some x) (hw : ∀ n ∈ x.1.weights Tryd.prog 9, n ≤ reachBytes) :
    ∃ s : ByteArray, v = .string s ∧ s.size ≤ 140737488355328 := by
  obtain ⟨s, h1, rfl, _⟩ := DataW.trod_string Tryd.underlying9 hf
  simp at h1
  subst h1
  refine ⟨s, rfl, ?_⟩
  have := hw s.data.toList.length (by simp [DataW.weights])
  rw [reach8] at this
  rw [Lib.size_eq]; omega
/- a list of parameters, from its cell -/
set_option maxRecDepth 100000 in
theorem cell_pars {H : Type} {enc : TypeId × Value → H} {W : World} {fuel : Nat} {v : Value} {x : DataW H × List MemPlace}
    (hf : DataW.trod enc Tryd.prog W 0 (fun _ => true) true fuel 51 [v] = some x) (hw : ∀ n ∈ x.1.weights Tryd.prog 51, n ≤ reachBytes) :
    ∃ A n c ps, v = .slice A n c ∧ Pars W W.heap.size A n ps ∧ n * 40 ≤ 140737488355328 ∧ (∀ p ∈ ps, p.1.length ≤ 140737488355328) ∧ (∀ p ∈ ps, p.2.length * 16 ≤ 140737488355328) ∧ (∀ p ∈ ps, ∀ l ∈ p.2, l.length ≤ 140737488355328) := by
  rcases Deep.open_slice_pairs Tryd.underlying51 Tryd.underlying81 cellsPar rfl rfl cellsStr cellsSl hf with ⟨hc, _⟩ | ⟨a, len0, cap0, m, n1, V0, V1, D0, D1, P0, P1, hc, _, hl, hm, hmm, rfl, hcell⟩
  · simp at hc
    subst hc
    exact ⟨none, 0, 0, [], rfl, ⟨rfl, fun h => absurd h (by omega)⟩, by omega, by simp, by simp, by simp⟩
  · simp at hc
    subst hc
    have hlm : len0 ≤ m := by rw [hmm]; split <;> omega
    simp only [DataW.weights, Tryd.underlying51, List.mem_cons, List.mem_append] at hw
    have hwi : ∀ i, i < len0 → (∀ k ∈ (D0 i).weights Tryd.prog 9, k ≤ reachBytes) ∧ (∀ k ∈ (D1 i).weights Tryd.prog 60, k ≤ reachBytes) := fun i hi => by
      have h1 : ∀ k ∈ (DataW.agg [D0 i, D1 i]).weights Tryd.prog 81, k ≤ reachBytes := fun k hk => hw k (.inr (.inl (weighAll _ (.agg [D0 i, D1 i]) (List.mem_map.2 ⟨i, List.mem_range.2 hi, rfl⟩) _ hk)))
      simp only [DataW.weights, Tryd.underlying81, DataW.weightsEach, List.map_cons, List.map_nil, List.mem_append] at h1
      exact ⟨fun k hk => h1 k (.inl hk), fun k hk => h1 k (.inr (.inl hk))⟩
    have hex : ∀ i, i < len0 → ∃ s : ByteArray, ∃ A' n' c' ls, V0 i = .string s ∧ s.size ≤ 140737488355328 ∧ V1 i = .slice A' n' c' ∧ Strs W W.heap.size A' n' ls ∧ n' * 16 ≤ 140737488355328 ∧ ∀ l ∈ ls, l.length ≤ 140737488355328 := fun i hi => by
      obtain ⟨_, _, h0, h1⟩ := hcell i (by omega)
      obtain ⟨s, e1, e2⟩ := cell_str h0 (hwi i hi).1
      obtain ⟨A', n', c', ls, e3, e4, e5, e6⟩ := cell_strs h1 (hwi i hi).2
      exact ⟨s, A', n', c', ls, e1, e2, e3, e4, e5, e6⟩
    have hch : ∃ (f : Nat → ByteArray) (g : Nat → List (List UInt8)), ∀ i, i < len0 → V0 i = .string (f i) ∧ (f i).size ≤ 140737488355328 ∧ ∃ A' n' c', V1 i = .slice A' n' c' ∧ Strs W W.heap.size A' n' (g i) ∧ n' * 16 ≤ 140737488355328 ∧ ∀ l ∈ g i, l.length ≤ 140737488355328 := by
      refine ⟨fun i => if h : i < len0 then (hex i h).choose else ⟨#[]⟩, fun i => if h : i < len0 then (hex i h).choose_spec.choose_spec.choose_spec.choose_spec.choose else [], fun i hi => ?_⟩
      simp only [hi, dif_pos]
      have h := (hex i hi).choose_spec.choose_spec.choose_spec.choose_spec.choose_spec
      exact ⟨h.1, h.2.1, _, _, _, h.2.2⟩
    obtain ⟨f, g, hfg⟩ := hch
    have hmem : ∀ p ∈ (List.range len0).map (fun i => ((f i).data.toList, g i)), ∃ i, i < len0 ∧ p = ((f i).data.toList, g i) := fun p hp => by
      obtain ⟨i, hi, rfl⟩ := List.mem_map.1 hp
      exact ⟨i, List.mem_range.1 hi, rfl⟩
    refine ⟨some a, len0, cap0, (List.range len0).map fun i => ((f i).data.toList, g i), rfl, ⟨by simp, fun hp => ⟨a, rfl, ?_, fun j u hu => ?_⟩⟩, ?_, ?_, ?_, ?_⟩
    · have := World.block_lt_of_cell? _ _ (hcell 0 (by omega)).1
      rwa [add_block] at this
    · have hj : j < len0 := by
        have := (List.getElem?_eq_some_iff.1 hu).1
        simpa using this
      rw [List.getElem?_map, List.getElem?_range hj] at hu
      simp only [Option.map_some, Option.some.injEq] at hu
      subst hu
      obtain ⟨h0, h1, _, _⟩ := hcell j (by omega)
      obtain ⟨e1, _, A', n', c', e2, e3, _⟩ := hfg j hj
      rw [e1] at h0
      rw [e2, add_two] at h1
      exact ⟨h0, A', n', c', h1, e3⟩
    · have := hw _ (.inl rfl)
      rw [bytesPar, reach8] at this
      simp only [List.length_map, List.length_range] at this
      omega
    · intro p hp
      obtain ⟨i, hi, rfl⟩ := hmem p hp
      have := (hfg i hi).2.1
      rw [Lib.size_eq] at this
      exact this
    · intro p hp
      obtain ⟨i, hi, rfl⟩ := hmem p hp
      obtain ⟨_, _, A', n', c', _, e3, e4, _⟩ := hfg i hi
      show (g i).length * 16 ≤ _
      rw [e3.1]; exact e4
    · intro p hp
      obtain ⟨i, hi, rfl⟩ := hmem p hp
      exact (hfg i hi).2.2.choose_spec.choose_spec.choose_spec.2.2.2
set_option maxRecDepth 100000 in
theorem read_line {H : Type} {enc : TypeId × Value → H} {W : World} {base : Nat} {v : Value} {d : DataW H} {p : List MemPlace}
    (h : DataW.Trod enc Tryd.prog W 0 (fun _ => true) true 53 v d p) (hok : Value.okWide Tryd.prog W .any base 53 v) (hw : ∀ n ∈ d.weights Tryd.prog 53, n ≤ reachBytes) :
    ∃ N V A n c ps, v = .agg #[.string N, .slice A n c, .string V] ∧ N.size ≤ 140737488355328 ∧ V.size ≤ 140737488355328 ∧ Pars W W.heap.size A n ps ∧ n * 40 ≤ 140737488355328 ∧ (∀ p ∈ ps, p.1.length ≤ 140737488355328) ∧ (∀ p ∈ ps, p.2.length * 16 ≤ 140737488355328) ∧ (∀ p ∈ ps, ∀ l ∈ p.2, l.length ≤ 140737488355328) := by
  obtain ⟨v0, v1, v2, y0, y1, y2, n, rfl, rfl, rfl, h0, h1, h2⟩ := Go.Joins.open_agg3 Tryd.underlying53 (by kernel_rfl) (by kernel_rfl) hok h
  simp only [DataW.weights, Tryd.underlying53, DataW.weightsEach, List.map_cons, List.map_nil, List.mem_append] at hw
  obtain ⟨N, rfl, hN⟩ := cell_str h0 (fun k hk => hw k (.inl hk))
  obtain ⟨A, n', c, ps, rfl, e1, e2, e3, e4, e5⟩ := cell_pars h1 (fun k hk => hw k (.inr (.inl hk)))
  obtain ⟨V, rfl, hV⟩ := cell_str h2 (fun k hk => hw k (.inr (.inr (.inl hk))))
  exact ⟨N, V, A, n', c, ps, rfl, hN, hV, e1, e2, e3, e4, e5⟩
end Go.Proofs.YtbfngdpdgmgfpaaDoor
namespace Go.Proofs.YtbfngdpdgmgfpaaDoor
open Go.RowKit Go.ChangeShapes Go.ChangeAt Go.WideShapes

set_option maxRecDepth 100000 in
theorem cellsLn : Tryd.prog.cellsOf 53 = 3 := by kernel_rfl
set_option maxRecDepth 100000 in
theorem bytesLn : Tryd.prog.bytesOf 53 = 56 := by kernel_rfl
set_option maxRecDepth 100000 in
theorem cellsTr : Tryd.prog.cellsOf 25 = 3 := by kernel_rfl
set_option maxRecDepth 100000 in
theorem bytesTr : Tryd.prog.bytesOf 25 = 64 := by kernel_rfl
set_option maxRecDepth 100000 in
theorem cellsSlP : Tryd.prog.cellsOf 51 = 1 := by kernel_rfl
set_option maxRecDepth 100000 in
theorem cellsSlL : Tryd.prog.cellsOf 22 = 1 := by kernel_rfl
set_option maxRecDepth 100000 in
theorem cellsSlT : Tryd.prog.cellsOf 23 = 1 := by kernel_rfl
/- a list, element by element -/
set_option maxRecDepth 100000 in
theorem listOf {α : Type} {P : Nat → α → Prop} (len : Nat) (h : ∀ i, i < len → ∃ a, P i a) : ∃ us : List α, us.length = len ∧ ∀ i a, us[i]? = some a → P i a := by
  induction len with
  | zero => exact ⟨[], rfl, fun i a ha => by simp at ha⟩
  | succ n ih =>
    obtain ⟨us, h1, h2⟩ := ih (fun i hi => h i (by omega))
    obtain ⟨a, ha⟩ := h n (by omega)
    refine ⟨us ++ [a], by simp [h1], fun i b hb => ?_⟩
    rcases Nat.lt_or_ge i n with hi | hi
    · rw [List.getElem?_append_left (by omega)] at hb; exact h2 i b hb
    · have hin : i = n := by
        have := (List.getElem?_eq_some_iff.1 hb).1
        simp [h1] at this; omega
      subst hin
      rw [List.getElem?_append_right (by omega), h1, Nat.sub_self] at hb
      have : a = b := by simpa using hb
      rw [← this]; exact ha
set_option maxRecDepth 100000 in
theorem bound_lt (len : Nat) (f : Nat → Nat) : ∃ M, ∀ i, i < len → f i ≤ M := by
  induction len with
  | zero => exact ⟨0, fun i hi => by omega⟩
  | succ n ih =>
    obtain ⟨M, h⟩ := ih
    exact ⟨max M (f n), fun i hi => by
      rcases Nat.lt_or_ge i n with h1 | h1
      · have := h i h1; omega
      · obtain rfl : i = n := by omega
        omega⟩
set_option maxRecDepth 100000 in
theorem add3 (a : Addr) (k i : Nat) (hi : 0 < i) : (a.add k).add i = ⟨(a.add k).block, (a.add k).off + i, none⟩ := by
  unfold Addr.add; split <;> simp_all <;> omega
section
variable {H : Type} {enc : TypeId × Value → H} {W : World} {fuel : Nat}
set_option maxRecDepth 100000 in
theorem slice_cap {t e : TypeId} {A : Option Addr} {n c : Nat} {x : DataW H × List MemPlace} (ht : Tryd.prog.underlying t = some (.slice e)) (hf : DataW.trod enc Tryd.prog W 0 (fun _ => true) true fuel t [.slice A n c] = some x) : n ≤ c := by
  rcases Deep.open_slice ht hf with ⟨hc, _⟩ | ⟨a, len0, cap0, m, n1, D, Pl, hc, _, hl, _⟩
  · simp at hc; omega
  · simp at hc; omega
/- a slice of structs of three fields, each of one cell -/
set_option maxRecDepth 100000 in
theorem open3 {t e : TypeId} {f0 f1 f2 : Field} {v : Value} {x : DataW H × List MemPlace} (ht : Tryd.prog.underlying t = some (.slice e)) (he : Tryd.prog.underlying e = some (.struct #[f0, f1, f2])) (ce : Tryd.prog.cellsOf e = 3) (o0 : f0.offset = 0) (o1 : f1.offset = 1) (o2 : f2.offset = 2)
    (c0 : Tryd.prog.cellsOf f0.type = 1) (c1 : Tryd.prog.cellsOf f1.type = 1) (c2 : Tryd.prog.cellsOf f2.type = 1) (hf : DataW.trod enc Tryd.prog W 0 (fun _ => true) true fuel t [v] = some x) :
    (v = .slice none 0 0 ∧ x = (.nil, [])) ∨ ∃ (a : Addr) (len cap : Nat) (D : Nat → DataW H) (R : List (DataW H)), v = .slice (some a) len cap ∧ x.1 = .slice ((List.range len).map D) R ∧
      ∀ i, i < len → ∃ (v0 v1 v2 : Value) (y0 y1 y2 : DataW H × List MemPlace) (n : Nat), D i = .agg [y0.1, y1.1, y2.1] ∧ W.cell? (a.add (i * 3)) = some v0 ∧ W.cell? ⟨(a.add (i * 3)).block, (a.add (i * 3)).off + 1, none⟩ = some v1 ∧ W.cell? ⟨(a.add (i * 3)).block, (a.add (i * 3)).off + 2, none⟩ = some v2 ∧
        DataW.trod enc Tryd.prog W 0 (fun _ => true) true n f0.type [v0] = some y0 ∧ DataW.trod enc Tryd.prog W 0 (fun _ => true) true n f1.type [v1] = some y1 ∧ DataW.trod enc Tryd.prog W 0 (fun _ => true) true n f2.type [v2] = some y2 := by
  rcases Deep.open_slice ht hf with ⟨hc, hx⟩ | ⟨a, len0, cap0, m, n1, D, Pl, hc, _, hl, hm, hmm, rfl, hx⟩
  · simp at hc
    exact .inl ⟨hc, hx⟩
  · simp at hc
    subst hc
    have hlm : len0 ≤ m := by rw [hmm]; split <;> omega
    refine .inr ⟨a, len0, cap0, D, _, rfl, rfl, fun i hi => ?_⟩
    obtain ⟨cs', h1, h2⟩ := hx i (by omega)
    rw [ce] at h1
    obtain ⟨_, hlen, hcell⟩ := World.cells?_some h1
    obtain ⟨y0, y1, y2, n, hxy, _, g0, g1, g2⟩ := Deep.trod_struct3 he h2
    match cs', hlen with
    | [v0, v1, v2], _ =>
      simp [o0, o1, o2, c0, c1, c2] at g0 g1 g2
      have e0 := hcell 0 (by omega)
      have e1 := hcell 1 (by omega)
      have e2 := hcell 2 (by omega)
      rw [add3 a (i * 3) 1 (by omega)] at e1
      rw [add3 a (i * 3) 2 (by omega)] at e2
      have z0 : (a.add (i * 3)).add 0 = a.add (i * 3) := by unfold Addr.add; simp
      rw [z0] at e0
      exact ⟨v0, v1, v2, y0, y1, y2, n, (Prod.mk.inj hxy).1, by simpa using e0, by simpa using e1, by simpa using e2, g0, g1, g2⟩
set_option maxRecDepth 100000 in
theorem weigh_slice {t e : TypeId} {us rs : List (DataW H)} (ht : Tryd.prog.underlying t = some (.slice e)) (hw : ∀ n ∈ (DataW.slice us rs).weights Tryd.prog t, n ≤ reachBytes) : us.length * Tryd.prog.bytesOf e ≤ reachBytes ∧ ∀ d ∈ us, ∀ n ∈ d.weights Tryd.prog e, n ≤ reachBytes := by
  simp only [DataW.weights, ht, List.mem_cons, List.mem_append] at hw
  refine ⟨?_, fun d hd n hn => hw n (.inr (.inl (weighAll _ d hd _ hn)))⟩
  have := hw _ (.inl rfl)
  have h2 : us.length * Tryd.prog.bytesOf e ≤ (us.length + rs.length) * Tryd.prog.bytesOf e := Nat.mul_le_mul_right _ (by omega)
  omega
end
section
variable {H : Type} {enc : TypeId × Value → H} {W : World} {fuel : Nat}
/- lines -/
set_option maxRecDepth 100000 in
theorem cell_lines {v : Value} {x : DataW H × List MemPlace} (hf : DataW.trod enc Tryd.prog W 0 (fun _ => true) true fuel 22 [v] = some x) (hw : ∀ n ∈ x.1.weights Tryd.prog 22, n ≤ reachBytes) :
    ∃ A n c ls, v = .slice A n c ∧ Lns W W.heap.size A n ls ∧ n * 56 ≤ 140737488355328 ∧ ∀ l ∈ ls, Ln.Rw l := by
  rcases open3 Tryd.underlying22 Tryd.underlying53 cellsLn rfl rfl rfl cellsStr cellsSlP cellsStr hf with ⟨rfl, _⟩ | ⟨a, len, cap, D, R, rfl, hx, hel⟩
  · exact ⟨none, 0, 0, [], rfl, Lns.nil _ _ _, by omega, by simp⟩
  · rw [hx] at hw
    obtain ⟨hw1, hw2⟩ := weigh_slice Tryd.underlying22 hw
    rw [bytesLn, reach8] at hw1
    simp only [List.length_map, List.length_range] at hw1
    obtain ⟨ls, hl1, hl2⟩ := listOf (α := Ln.Li) (P := fun i l => (∃ A' n' c', W.cell? (a.add (i * 3)) = some (.string ⟨l.name.toArray⟩) ∧ W.cell? ⟨(a.add (i * 3)).block, (a.add (i * 3)).off + 1, none⟩ = some (.slice A' n' c') ∧ W.cell? ⟨(a.add (i * 3)).block, (a.add (i * 3)).off + 2, none⟩ = some (.string ⟨l.value.toArray⟩) ∧ Pars W W.heap.size A' n' l.ps ∧ n' ≤ c') ∧ Ln.Rw l) len (fun i hi => by
      obtain ⟨v0, v1, v2, y0, y1, y2, n, hD, k0, k1, k2, t0, t1, t2⟩ := hel i hi
      have hwi := hw2 (D i) (List.mem_map.2 ⟨i, List.mem_range.2 hi, rfl⟩)
      rw [hD] at hwi
      simp only [DataW.weights, Tryd.underlying53, DataW.weightsEach, List.map_cons, List.map_nil, List.mem_append] at hwi
      obtain ⟨N, rfl, hN⟩ := cell_str t0 (fun k hk => hwi k (.inl hk))
      obtain ⟨A', n', c', ps, rfl, e1, e2, e3, e4, e5⟩ := cell_pars t1 (fun k hk => hwi k (.inr (.inl hk)))
      obtain ⟨V, rfl, hV⟩ := cell_str t2 (fun k hk => hwi k (.inr (.inr (.inl hk))))
      have hb : ∀ s : ByteArray, (⟨s.data.toList.toArray⟩ : ByteArray) = s := fun s => by cases s; simp
      refine ⟨⟨N.data.toList, ps, V.data.toList⟩, ⟨A', n', c', by rw [hb]; exact k0, k1, by rw [hb]; exact k2, e1, slice_cap Tryd.underlying51 t1⟩, ⟨?_, ?_, ?_, e3, e4, e5⟩⟩
      · rw [Lib.size_eq] at hN; exact hN
      · rw [Lib.size_eq] at hV; exact hV
      · show ps.length * 40 ≤ _; rw [e1.1]; exact e2)
    refine ⟨some a, len, cap, ls, rfl, ⟨hl1, fun hp => ⟨a, rfl, ?_, fun j l hj => (hl2 j l hj).1⟩⟩, by omega, fun l hl => ?_⟩
    · obtain ⟨v0, _, _, _, _, _, _, _, k0, _⟩ := hel 0 hp
      have := World.block_lt_of_cell? _ _ k0
      rwa [add_block] at this
    · obtain ⟨j, hj, rfl⟩ := List.getElem_of_mem hl
      exact (hl2 j _ (List.getElem?_eq_getElem hj)).2
/- components -/
set_option maxRecDepth 100000 in
theorem cell_kids (S : Nat) : ∀ (fuel : Nat) (v : Value) (x : DataW H × List MemPlace), SizeOf.sizeOf x.1 ≤ S → DataW.trod enc Tryd.prog W 0 (fun _ => true) true fuel 23 [v] = some x → (∀ n ∈ x.1.weights Tryd.prog 23, n ≤ reachBytes) →
    ∃ A n c ts d, v = .slice A n c ∧ Kds d W W.heap.size A n ts ∧ n * 64 ≤ 140737488355328 ∧ ∀ t ∈ ts, Ln.RwT t := by
  induction S using Nat.strongRecOn with
  | _ S ih =>
  intro fuel v x hS hf hw
  rcases open3 Tryd.underlying23 Tryd.underlying25 cellsTr rfl rfl rfl cellsStr cellsSlL cellsSlT hf with ⟨rfl, _⟩ | ⟨a, len, cap, D, R, rfl, hx, hel⟩
  · exact ⟨none, 0, 0, [], 0, rfl, Kds.nil _ _ _ _, by omega, by simp⟩
  · rw [hx] at hw hS
    obtain ⟨hw1, hw2⟩ := weigh_slice Tryd.underlying23 hw
    rw [bytesTr, reach8] at hw1
    simp only [List.length_map, List.length_range] at hw1
    have hsz : ∀ i, i < len → SizeOf.sizeOf (D i) < S := fun i hi => by
      have h1 : D i ∈ (List.range len).map D := List.mem_map.2 ⟨i, List.mem_range.2 hi, rfl⟩
      have h2 := List.sizeOf_lt_of_mem h1
      simp only [DataW.slice.sizeOf_spec] at hS
      omega
    obtain ⟨ts, hl1, hl2⟩ := listOf (α := Ln.Tr × Nat) (P := fun i u => (∃ A1 n1 c1 A2 n2 c2, W.cell? (a.add (i * 3)) = some (.string ⟨u.1.name.toArray⟩) ∧ W.cell? ⟨(a.add (i * 3)).block, (a.add (i * 3)).off + 1, none⟩ = some (.slice A1 n1 c1) ∧ W.cell? ⟨(a.add (i * 3)).block, (a.add (i * 3)).off + 2, none⟩ = some (.slice A2 n2 c2) ∧ Lns W W.heap.size A1 n1 u.1.lines ∧ Kds u.2 W W.heap.size A2 n2 u.1.kids) ∧ Ln.RwT u.1) len (fun i hi => by
      obtain ⟨v0, v1, v2, y0, y1, y2, n, hD, k0, k1, k2, t0, t1, t2⟩ := hel i hi
      have hwi := hw2 (D i) (List.mem_map.2 ⟨i, List.mem_range.2 hi, rfl⟩)
      have hsi := hsz i hi
      rw [hD] at hwi hsi
      simp only [DataW.weights, Tryd.underlying25, DataW.weightsEach, List.map_cons, List.map_nil, List.mem_append] at hwi
      obtain ⟨N, rfl, hN⟩ := cell_str t0 (fun k hk => hwi k (.inl hk))
      obtain ⟨A1, n1, c1, ls, rfl, e1, e2, e3⟩ := cell_lines t1 (fun k hk => hwi k (.inr (.inl hk)))
      have hs2 : SizeOf.sizeOf y2.1 < S := by
        have h1 : y2.1 ∈ [y0.1, y1.1, y2.1] := by simp
        have h2 := List.sizeOf_lt_of_mem h1
        simp only [DataW.agg.sizeOf_spec] at hsi
        omega
      obtain ⟨A2, n2, c2, ks, d, rfl, g1, g2, g3⟩ := ih _ hs2 n v2 y2 (Nat.le_refl _) t2 (fun k hk => hwi k (.inr (.inr (.inl hk))))
      have hb : ∀ s : ByteArray, (⟨s.data.toList.toArray⟩ : ByteArray) = s := fun s => by cases s; simp
      refine ⟨(.mk N.data.toList ls ks, d), ⟨A1, n1, c1, A2, n2, c2, ?_, k1, k2, e1, g1⟩, .mk _ ⟨?_, ?_, ?_⟩ e3 g3⟩
      · show _ = some (Value.string ⟨N.data.toList.toArray⟩); rw [hb]; exact k0
      · show N.data.toList.length ≤ _; rw [Lib.size_eq] at hN; exact hN
      · show ls.length * 56 ≤ _; rw [e1.1]; exact e2
      · show ks.length * 64 ≤ _; rw [g1.len]; exact g2)
    obtain ⟨M, hM⟩ := bound_lt len (fun i => if h : i < ts.length then ts[i].2 else 0)
    refine ⟨some a, len, cap, ts.map Prod.fst, M + 1, rfl, ⟨by simp [hl1], fun hp => ⟨a, rfl, ?_, fun j t hj => ?_⟩⟩, by omega, fun t ht => ?_⟩
    · obtain ⟨v0, _, _, _, _, _, _, _, k0, _⟩ := hel 0 hp
      have := World.block_lt_of_cell? _ _ k0
      rwa [add_block] at this
    · rw [List.getElem?_map] at hj
      have hjl : j < ts.length := by
        rcases Nat.lt_or_ge j ts.length with h | h
        · exact h
        · rw [List.getElem?_eq_none h] at hj; cases hj
      rw [List.getElem?_eq_getElem hjl, Option.map_some] at hj
      have hj := Option.some.inj hj
      subst hj
      obtain ⟨⟨A1, n1, c1, A2, n2, c2, q0, q1, q2, q3, q4⟩, _⟩ := hl2 j _ (List.getElem?_eq_getElem hjl)
      have hMj := hM j (by omega)
      simp only [hjl, dif_pos] at hMj
      exact ⟨A1, n1, c1, A2, n2, c2, q0, q1, q2, q3, q4.more (Nat.le_refl _) hMj⟩
    · obtain ⟨u, hu, rfl⟩ := List.mem_map.1 ht
      obtain ⟨j, hj, rfl⟩ := List.getElem_of_mem hu
      exact (hl2 j _ (List.getElem?_eq_getElem hj)).2
end
set_option maxRecDepth 100000 in
theorem read_tree {H : Type} {enc : TypeId × Value → H} {W : World} {base : Nat} {v : Value} {d : DataW H} {p : List MemPlace}
    (h : DataW.Trod enc Tryd.prog W 0 (fun _ => true) true 25 v d p) (hok : Value.okWide Tryd.prog W .any base 25 v) (hw : ∀ n ∈ d.weights Tryd.prog 25, n ≤ reachBytes) :
    ∃ t A n c A2 n2 c2 k, v = .agg #[.string ⟨t.name.toArray⟩, .slice A n c, .slice A2 n2 c2] ∧ Lns W W.heap.size A n t.lines ∧ Kds k W W.heap.size A2 n2 t.kids ∧ Ln.RwT t := by
  obtain ⟨v0, v1, v2, y0, y1, y2, n, rfl, rfl, rfl, h0, h1, h2⟩ := Go.Joins.open_agg3 Tryd.underlying25 (by kernel_rfl) (by kernel_rfl) hok h
  simp only [DataW.weights, Tryd.underlying25, DataW.weightsEach, List.map_cons, List.map_nil, List.mem_append] at hw
  obtain ⟨N, rfl, hN⟩ := cell_str h0 (fun k hk => hw k (.inl hk))
  obtain ⟨A, n1, c, ls, rfl, e1, e2, e3⟩ := cell_lines h1 (fun k hk => hw k (.inr (.inl hk)))
  obtain ⟨A2, n2, c2, ks, k, rfl, g1, g2, g3⟩ := cell_kids _ _ _ _ (Nat.le_refl _) h2 (fun k hk => hw k (.inr (.inr (.inl hk))))
  have hb : ∀ s : ByteArray, (⟨s.data.toList.toArray⟩ : ByteArray) = s := fun s => by cases s; simp
  refine ⟨.mk N.data.toList ls ks, A, n1, c, A2, n2, c2, k, ?_, e1, g1, .mk _ ⟨?_, ?_, ?_⟩ e3 g3⟩
  · show _ = Value.agg #[.string ⟨N.data.toList.toArray⟩, _, _]; rw [hb]
  · show N.data.toList.length ≤ _; rw [Lib.size_eq] at hN; exact hN
  · show ls.length * 56 ≤ _; rw [e1.1]; exact e2
  · show ks.length * 64 ≤ _; rw [g1.len]; exact g2
end Go.Proofs.YtbfngdpdgmgfpaaDoor
