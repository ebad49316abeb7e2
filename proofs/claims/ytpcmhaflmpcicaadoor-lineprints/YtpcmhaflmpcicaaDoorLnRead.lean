/- A line that came in as an argument. -/
import Derived.Test.YtpcmhaflmpcicaaDoorFdRow
import Derived.Test.YtpcmhaflmpcicaaDoorLnRow
import Derived.Deep.SlicePairs
import Derived.Lib.SmallJoins
namespace Go.Proofs.YtpcmhaflmpcicaaDoor
open Go.RowKit Go.ChangeShapes Go.ChangeAt Go.WideShapes

theorem cellsPar : Tryd.prog.cellsOf 46 = 2 := by kernel_rfl
theorem bytesPar : Tryd.prog.bytesOf 46 = 40 := by kernel_rfl
theorem cellsSl : Tryd.prog.cellsOf 44 = 1 := by kernel_rfl
theorem add_two (a : Addr) (i : Nat) : a.add (i * 2 + 1) = ⟨(a.add (i * 2)).block, (a.add (i * 2)).off + 1, none⟩ := by
  rw [← Deep.add_add]
  rfl
/- a list of texts, from its cell -/
theorem cell_strs {H : Type} {enc : TypeId × Value → H} {W : World} {fuel : Nat} {v : Value} {x : DataW H × List MemPlace}
    (hf : DataW.trod enc Tryd.prog W 0 (fun _ => true) true fuel 44 [v] = some x) (hw : ∀ n ∈ x.1.weights Tryd.prog 44, n ≤ reachBytes) :
    ∃ A n c ls, v = .slice A n c ∧ Strs W W.heap.size A n ls ∧ n * 16 ≤ 140737488355328 ∧ ∀ l ∈ ls, l.length ≤ 140737488355328 := by
  rcases Deep.open_strs Tryd.underlying44 Tryd.underlying9 cellsStr hf with ⟨hc, _⟩ | ⟨a, len0, cap0, m, Sx, hc, _, hl, hm, hmm, rfl, hcell⟩
  · simp at hc
    subst hc
    exact ⟨none, 0, 0, [], rfl, Strs.nil _ _ _, by omega, by simp⟩
  · simp at hc
    subst hc
    have hlm : len0 ≤ m := by rw [hmm]; split <;> omega
    simp only [DataW.weights, Tryd.underlying44, List.mem_cons, List.mem_append] at hw
    refine ⟨some a, len0, cap0, (List.range len0).map fun i => (Sx i).data.toList, rfl, ⟨by simp, fun hp => ⟨a, rfl, ?_, fun j u hu => ?_⟩⟩, ?_, ?_⟩
    · have := World.block_lt_of_cell? _ _ (hcell 0 (by omega)).1
      rwa [add_block] at this
    · have hj : j < len0 := by
        have := (List.getElem?_eq_some_iff.1 hu).1
        simpa using this
      rw [List.getElem?_map, List.getElem?_range hj] at hu
      simp only [Option.map_some, Option.some.injEq] at hu
      subst hu
      exact (hcell j (by omega)).1
    · have := hw _ (.inl rfl)
      rw [bytesStr, reach8] at this
      simp only [List.length_map, List.length_range] at this
      omega
    · intro l hl2
      obtain ⟨i, hi, rfl⟩ := List.mem_map.1 hl2
      have := hw (Sx i).data.toList.length (.inr (.inl (weighAll _ (.lit (.string (Sx i).data.toList)) (List.mem_map.2 ⟨i, hi, rfl⟩) _ (by simp [DataW.weights]))))
      rw [reach8] at this
      omega
theorem cell_str {H : Type} {enc : TypeId × Value → H} {W : World} {fuel : Nat} {v : Value} {x : DataW H × List MemPlace}
    (hf : DataW.trod enc Tryd.prog W 0 (fun _ => true) true fuel 9 [v] = some x) (hw : ∀ n ∈ x.1.weights Tryd.prog 9, n ≤ reachBytes) :
    ∃ s : ByteArray, v = .string s ∧ s.size ≤ 140737488355328 := by
  obtain ⟨s, h1, rfl, _⟩ := DataW.trod_string Tryd.underlying9 hf
  simp at h1
  subst h1
  refine ⟨s, rfl, ?_⟩
  have := hw s.data.toList.length (by simp [DataW.weights])
  rw [reach8] at this
  rw [Lib.size_eq]; omega
/- a list of parameters, from its cell -/
theorem cell_pars {H : Type} {enc : TypeId × Value → H} {W : World} {fuel : Nat} {v : Value} {x : DataW H × List MemPlace}
    (hf : DataW.trod enc Tryd.prog W 0 (fun _ => true) true fuel 22 [v] = some x) (hw : ∀ n ∈ x.1.weights Tryd.prog 22, n ≤ reachBytes) :
    ∃ A n c ps, v = .slice A n c ∧ Pars W W.heap.size A n ps ∧ n * 40 ≤ 140737488355328 ∧ (∀ p ∈ ps, p.1.length ≤ 140737488355328) ∧ (∀ p ∈ ps, p.2.length * 16 ≤ 140737488355328) ∧ (∀ p ∈ ps, ∀ l ∈ p.2, l.length ≤ 140737488355328) := by
  rcases Deep.open_slice_pairs Tryd.underlying22 Tryd.underlying46 cellsPar rfl rfl cellsStr cellsSl hf with ⟨hc, _⟩ | ⟨a, len0, cap0, m, n1, V0, V1, D0, D1, P0, P1, hc, _, hl, hm, hmm, rfl, hcell⟩
  · simp at hc
    subst hc
    exact ⟨none, 0, 0, [], rfl, ⟨rfl, fun h => absurd h (by omega)⟩, by omega, by simp, by simp, by simp⟩
  · simp at hc
    subst hc
    have hlm : len0 ≤ m := by rw [hmm]; split <;> omega
    simp only [DataW.weights, Tryd.underlying22, List.mem_cons, List.mem_append] at hw
    have hwi : ∀ i, i < len0 → (∀ k ∈ (D0 i).weights Tryd.prog 9, k ≤ reachBytes) ∧ (∀ k ∈ (D1 i).weights Tryd.prog 44, k ≤ reachBytes) := fun i hi => by
      have h1 : ∀ k ∈ (DataW.agg [D0 i, D1 i]).weights Tryd.prog 46, k ≤ reachBytes := fun k hk => hw k (.inr (.inl (weighAll _ (.agg [D0 i, D1 i]) (List.mem_map.2 ⟨i, List.mem_range.2 hi, rfl⟩) _ hk)))
      simp only [DataW.weights, Tryd.underlying46, DataW.weightsEach, List.map_cons, List.map_nil, List.mem_append] at h1
      exact ⟨fun k hk => h1 k (.inl hk), fun k hk => h1 k (.inr (.inl hk))⟩
    have hex : ∀ i, i < len0 → ∃ s : ByteArray, ∃ A' n' c' ls, V0 i = .string s ∧ s.size ≤ 140737488355328 ∧ V1 i = .slice A' n' c' ∧ Strs W W.heap.size A' n' ls ∧ n' * 16 ≤ 140737488355328 ∧ ∀ l ∈ ls, l.length ≤ 140737488355328 := fun i hi => by
      obtain ⟨_, _, h0, h1⟩ := hcell i (by omega)
      obtain ⟨s, e1, e2⟩ := cell_str h0 (hwi i hi).1
      obtain ⟨A', n', c', ls, e3, e4, e5, e6⟩ := cell_strs h1 (hwi i hi).2
      exact ⟨s, A', n', c', ls, e1, e2, e3, e4, e5, e6⟩
    have hch : ∃ (f : Nat → ByteArray) (g : Nat → List (List UInt8)), ∀ i, i < len0 → V0 i = .string (f i) ∧ (f i).size ≤ 140737488355328 ∧ ∃ A' n' c', V1 i = .slice A' n' c' ∧ Strs W W.heap.size A' n' (g i) ∧ n' * 16 ≤ 140737488355328 ∧ ∀ l ∈ g i, l.length ≤ 140737488355328 := by
      refine ⟨fun i => if h : i < len0 then (hex i h).choose else ⟨#[]⟩, fun i => if h : i < len0 then (hex i h).choose_spec.choose_spec.choose_spec.choose_spec.choose else [], fun i hi => ?_⟩
      simp only [hi, dif_pos]
      have h := (hex i hi).choose_spec.choose_spec.choose_spec.choose_spec.choose_spec
      exact ⟨h.1, h.2.1, _, _, _, h.2.2⟩
    obtain ⟨f, g, hfg⟩ := hch
    have hmem : ∀ p ∈ (List.range len0).map (fun i => ((f i).data.toList, g i)), ∃ i, i < len0 ∧ p = ((f i).data.toList, g i) := fun p hp => by
      obtain ⟨i, hi, rfl⟩ := List.mem_map.1 hp
      exact ⟨i, List.mem_range.1 hi, rfl⟩
    refine ⟨some a, len0, cap0, (List.range len0).map fun i => ((f i).data.toList, g i), rfl, ⟨by simp, fun hp => ⟨a, rfl, ?_, fun j u hu => ?_⟩⟩, ?_, ?_, ?_, ?_⟩
    · have := World.block_lt_of_cell? _ _ (hcell 0 (by omega)).1
      rwa [add_block] at this
    · have hj : j < len0 := by
        have := (List.getElem?_eq_some_iff.1 hu).1
        simpa using this
      rw [List.getElem?_map, List.getElem?_range hj] at hu
      simp only [Option.map_some, Option.some.injEq] at hu
      subst hu
      obtain ⟨h0, h1, _, _⟩ := hcell j (by omega)
      obtain ⟨e1, _, A', n', c', e2, e3, _⟩ := hfg j hj
      rw [e1] at h0
      rw [e2, add_two] at h1
      exact ⟨h0, A', n', c', h1, e3⟩
    · have := hw _ (.inl rfl)
      rw [bytesPar, reach8] at this
      simp only [List.length_map, List.length_range] at this
      omega
    · intro p hp
      obtain ⟨i, hi, rfl⟩ := hmem p hp
      have := (hfg i hi).2.1
      rw [Lib.size_eq] at this
      exact this
    · intro p hp
      obtain ⟨i, hi, rfl⟩ := hmem p hp
      obtain ⟨_, _, A', n', c', _, e3, e4, _⟩ := hfg i hi
      show (g i).length * 16 ≤ _
      rw [e3.1]; exact e4
    · intro p hp
      obtain ⟨i, hi, rfl⟩ := hmem p hp
      exact (hfg i hi).2.2.choose_spec.choose_spec.choose_spec.2.2.2
theorem read_line {H : Type} {enc : TypeId × Value → H} {W : World} {base : Nat} {v : Value} {d : DataW H} {p : List MemPlace}
    (h : DataW.Trod enc Tryd.prog W 0 (fun _ => true) true 24 v d p) (hok : Value.okWide Tryd.prog W .any base 24 v) (hw : ∀ n ∈ d.weights Tryd.prog 24, n ≤ reachBytes) :
    ∃ N V A n c ps, v = .agg #[.string N, .slice A n c, .string V] ∧ N.size ≤ 140737488355328 ∧ V.size ≤ 140737488355328 ∧ Pars W W.heap.size A n ps ∧ n * 40 ≤ 140737488355328 ∧ (∀ p ∈ ps, p.1.length ≤ 140737488355328) ∧ (∀ p ∈ ps, p.2.length * 16 ≤ 140737488355328) ∧ (∀ p ∈ ps, ∀ l ∈ p.2, l.length ≤ 140737488355328) := by
  obtain ⟨v0, v1, v2, y0, y1, y2, n, rfl, rfl, rfl, h0, h1, h2⟩ := Go.Joins.open_agg3 Tryd.underlying24 (by kernel_rfl) (by kernel_rfl) hok h
  simp only [DataW.weights, Tryd.underlying24, DataW.weightsEach, List.map_cons, List.map_nil, List.mem_append] at hw
  obtain ⟨N, rfl, hN⟩ := cell_str h0 (fun k hk => hw k (.inl hk))
  obtain ⟨A, n', c, ps, rfl, e1, e2, e3, e4, e5⟩ := cell_pars h1 (fun k hk => hw k (.inr (.inl hk)))
  obtain ⟨V, rfl, hV⟩ := cell_str h2 (fun k hk => hw k (.inr (.inr (.inl hk))))
  exact ⟨N, V, A, n', c, ps, rfl, hN, hV, e1, e2, e3, e4, e5⟩
end Go.Proofs.YtpcmhaflmpcicaaDoor
