/- Numbers of 16 bits that came in. -/
import Derived.Test.YtbdfkpgcjdhcdaaDoorFdRow
import Derived.Test.YtbdfkpgcjdhcdaaDoorWFOther
import Derived.ChangeSlices
namespace Go.Proofs.YtbdfkpgcjdhcdaaDoor
open Go.RowKit Go.ChangeShapes Go.ChangeAt Go.WideShapes

theorem cellsU16 : Tryd.prog.cellsOf 33 = 1 := by kernel_rfl
theorem bytesU16 : Tryd.prog.bytesOf 33 = 2 := by kernel_rfl
theorem read_u16s {H : Type} {enc : TypeId × Value → H} {W : World} {base : Nat} {v : Value} {d : DataW H} {p : List MemPlace}
    (h : DataW.Trod enc Tryd.prog W 0 (fun _ => true) true 32 v d p) (hok : Value.okWide Tryd.prog W .any base 32 v) (hw : ∀ n ∈ d.weights Tryd.prog 32, n ≤ reachBytes) :
    ∃ A n c zs, v = .slice A n c ∧ U16s W W.heap.size A n zs ∧ n ≤ 140737488355328 := by
  obtain ⟨a0, len0, cap0, rfl⟩ := okWide_slice Tryd.underlying32 hok
  obtain ⟨fuel, hf⟩ := h
  rcases open_ints Tryd.underlying32 Tryd.underlying33 cellsU16 hf with ⟨hc, _⟩ | ⟨a, len, cap, zs, hc, _, hl, hm, hzl, hx, hcell, hwf⟩
  · simp [Value.cells] at hc
    obtain ⟨rfl, rfl, rfl⟩ := hc
    exact ⟨none, 0, 0, [], rfl, ⟨rfl, fun h => absurd h (by omega)⟩, by omega⟩
  · simp [Value.cells] at hc
    obtain ⟨rfl, rfl, rfl⟩ := hc
    simp only [Prod.mk.injEq] at hx
    obtain ⟨rfl, rfl⟩ := hx
    have hlz : len0 ≤ zs.length := by rw [hzl]; split <;> omega
    refine ⟨some a, len0, cap0, zs.take len0, rfl, ⟨by rw [List.length_take]; omega, fun hp => ⟨a, rfl, ?_, fun j u hu => ?_⟩⟩, ?_⟩
    · have := World.block_lt_of_cell? _ _ (hcell 0 (by omega))
      rwa [add_block] at this
    · have hj : j < len0 := by
        have := (List.getElem?_eq_some_iff.1 hu).1
        rw [List.length_take] at this; omega
      rw [List.getElem?_take, if_pos hj] at hu
      have hu2 : zs.getD j 0 = u := by rw [List.getD_eq_getElem?_getD, hu]; rfl
      have h1 := hcell j (by omega)
      rw [hu2] at h1
      have h2 := hwf u (List.mem_of_getElem? hu)
      have h3 : 0 ≤ u ∧ u < 65536 := by
        simp [Lit.wf, IntKind.min, IntKind.max, IntKind.signed, IntKind.bits] at h2
        omega
      exact ⟨h1, h3⟩
    · simp only [DataW.weights, Tryd.underlying32, List.mem_cons, List.mem_append] at hw
      have := hw _ (.inl rfl)
      rw [bytesU16, reach8] at this
      simp only [lits, List.length_map, List.length_take, List.length_drop] at this
      omega
end Go.Proofs.YtbdfkpgcjdhcdaaDoor
