/- A rule that came in as an argument, with the bound of its zone's name, and the table of powers of ten (written by mkrcread.py). -/
import Derived.Test.YtleeklcpbflfhaaGreatDoorZM
import Derived.Test.YtleeklcpbflfhaaGreatDoorZLaid
namespace Go.Proofs.YtleeklcpbflfhaaGreatDoor
open Go.RowKit Go.ChangeShapes Go.ChangeAt Go.WideShapes

theorem tab_of_laidm {W : World} {x y : String × DataW Unit} {rest : List (String × DataW Unit)} (h : laidMet Tryz.prog (x :: y :: ("internal/strconv.uint64pow10", Rows.laid_internal_strconv_uint64pow10) :: rest) W) : Tab W := by
  have h2 := laidMet.tail (laidMet.tail h)
  rw [tab_laid] at h2
  exact Lib.tabIs_of_head (rest := rest) gTab gTabType Tryz.underlying193 Tryz.underlying174 cellsU64 cellsTab h2
set_option maxRecDepth 100000 in
set_option maxHeartbeats 4000000 in
theorem read_rule2 {H : Type} {enc : TypeId × Value → H} {W : World} {base : Nat} {v : Value} {d : DataW H} {p : List MemPlace}
    (h : DataW.Trod enc Tryz.prog W 0 (fun _ => true) true 27 v d p) (hok : Value.okWide Tryz.prog W .any base 27 v) (hw : ∀ n ∈ d.weights Tryz.prog 27, n ≤ reachBytes) :
    ∃ V : Rm.Rv, v = .agg V.val ∧ RuM W W.heap.size V ∧ V.z.size ≤ 9223372036854775807 ∧ V.day.n ≤ 140737488355328 ∧ ∀ i, i < 8 → (V.sl i).n ≤ 140737488355328 := by
  obtain ⟨cs, rfl, hsz⟩ := okWide_struct Tryz.underlying27 hok
  obtain ⟨c0, c1, c2, c3, c4, c5, c6, c7, c8, c9, c10, c11, c12, c13, c14, c15, c16, rfl⟩ := array17 (hsz.trans cellsRule)
  obtain ⟨fuel, hf⟩ := h
  obtain ⟨xs, n, _, hx, _, hlen, hF⟩ := DataW.trod_struct Tryz.underlying27 hf
  obtain ⟨y0, y1, y2, y3, y4, y5, y6, y7, y8, y9, y10, y11, y12, y13, y14, rfl⟩ := list15 hlen
  simp only [Prod.mk.injEq] at hx
  obtain ⟨rfl, rfl⟩ := hx
  simp only [DataW.weights, Tryz.underlying27, DataW.weightsEach, List.map_cons, List.map_nil, List.mem_append] at hw
  have h0 := hF 0 _ rfl
  have h1 := hF 1 _ rfl
  have h2 := hF 2 _ rfl
  have h3 := hF 3 _ rfl
  have h4 := hF 4 _ rfl
  have h5 := hF 5 _ rfl
  have h6 := hF 6 _ rfl
  have h7 := hF 7 _ rfl
  have h8 := hF 8 _ rfl
  have h9 := hF 9 _ rfl
  have h10 := hF 10 _ rfl
  have h11 := hF 11 _ rfl
  have h12 := hF 12 _ rfl
  have h13 := hF 13 _ rfl
  have h14 := hF 14 _ rfl
  simp [Value.cells, cellsInt] at h0
  simp [Value.cells, cellsInt] at h1
  simp [Value.cells, cellsInt] at h2
  simp [Value.cells, cellsTime] at h3
  simp [Value.cells, cellsB] at h4
  simp [Value.cells, cellsInt] at h5
  simp [Value.cells, cellsLI] at h6
  simp [Value.cells, cellsLI] at h7
  simp [Value.cells, cellsLI] at h8
  simp [Value.cells, cellsLD] at h9
  simp [Value.cells, cellsLI] at h10
  simp [Value.cells, cellsLI] at h11
  simp [Value.cells, cellsLI] at h12
  simp [Value.cells, cellsLI] at h13
  simp [Value.cells, cellsLI] at h14
  clear hF hf hsz hok
  obtain ⟨z0, e0, _⟩ := DataW.trod_int Tryz.underlying3 h0
  obtain ⟨z1, e1, _⟩ := DataW.trod_int Tryz.underlying3 h1
  obtain ⟨z2, e2, _⟩ := DataW.trod_int Tryz.underlying3 h2
  obtain ⟨t0, t1, t2, m, _, _, k0, k1, k2⟩ := Deep.trod_struct3 Tryz.underlying23 h3
  simp [cellsInt] at k0
  simp [cellsI64] at k1
  simp [cellsS] at k2
  obtain ⟨z3, e3, _⟩ := DataW.trod_int Tryz.underlying3 k0
  obtain ⟨z4, e4, _⟩ := DataW.trod_int Tryz.underlying2 k1
  obtain ⟨z5, e5, L5⟩ := DataW.trod_string Tryz.underlying9 k2
  obtain ⟨z6, e6, _⟩ := DataW.trod_bool Tryz.underlying4 h4
  obtain ⟨z7, e7, _⟩ := DataW.trod_int Tryz.underlying3 h5
  obtain ⟨A6, n6, m6, s6, rfl, N6, B6⟩ := cell_nums h6 (fun k hk => hw k (.inr (.inr (.inr (.inr (.inr (.inr (.inl hk))))))))
  obtain ⟨A7, n7, m7, s7, rfl, N7, B7⟩ := cell_nums h7 (fun k hk => hw k (.inr (.inr (.inr (.inr (.inr (.inr (.inr (.inl hk)))))))))
  obtain ⟨A8, n8, m8, s8, rfl, N8, B8⟩ := cell_nums h8 (fun k hk => hw k (.inr (.inr (.inr (.inr (.inr (.inr (.inr (.inr (.inl hk))))))))))
  obtain ⟨A9, n9, m9, s9, rfl, N9, B9⟩ := cell_days h9 (fun k hk => hw k (.inr (.inr (.inr (.inr (.inr (.inr (.inr (.inr (.inr (.inl hk)))))))))))
  obtain ⟨A10, n10, m10, s10, rfl, N10, B10⟩ := cell_nums h10 (fun k hk => hw k (.inr (.inr (.inr (.inr (.inr (.inr (.inr (.inr (.inr (.inr (.inl hk))))))))))))
  obtain ⟨A11, n11, m11, s11, rfl, N11, B11⟩ := cell_nums h11 (fun k hk => hw k (.inr (.inr (.inr (.inr (.inr (.inr (.inr (.inr (.inr (.inr (.inr (.inl hk)))))))))))))
  obtain ⟨A12, n12, m12, s12, rfl, N12, B12⟩ := cell_nums h12 (fun k hk => hw k (.inr (.inr (.inr (.inr (.inr (.inr (.inr (.inr (.inr (.inr (.inr (.inr (.inl hk))))))))))))))
  obtain ⟨A13, n13, m13, s13, rfl, N13, B13⟩ := cell_nums h13 (fun k hk => hw k (.inr (.inr (.inr (.inr (.inr (.inr (.inr (.inr (.inr (.inr (.inr (.inr (.inr (.inl hk)))))))))))))))
  obtain ⟨A14, n14, m14, s14, rfl, N14, B14⟩ := cell_nums h14 (fun k hk => hw k (.inr (.inr (.inr (.inr (.inr (.inr (.inr (.inr (.inr (.inr (.inr (.inr (.inr (.inr (.inl hk))))))))))))))))
  simp at e0 e1 e2 e3 e4 e5 e6 e7
  subst e0 e1 e2 e3 e4 e5 e6 e7
  refine ⟨⟨⟨z0, z1, z2, z3, z4, z5.data.toList, z6, z7, s6, s7, s8, s9, s10, s11, s12, s13, s14⟩, z5, ⟨A6, n6, m6⟩, ⟨A7, n7, m7⟩, ⟨A8, n8, m8⟩, ⟨A9, n9, m9⟩, ⟨A10, n10, m10⟩, ⟨A11, n11, m11⟩, ⟨A12, n12, m12⟩, ⟨A13, n13, m13⟩, ⟨A14, n14, m14⟩⟩, rfl, ⟨rfl, fun i hi => ?_, N9⟩, Nat.le_trans L5.2 (by decide), B9, fun i hi => ?_⟩
  · rcases (show i = 0 ∨ i = 1 ∨ i = 2 ∨ i = 3 ∨ i = 4 ∨ i = 5 ∨ i = 6 ∨ i = 7 by omega) with rfl | rfl | rfl | rfl | rfl | rfl | rfl | rfl
    · exact N6
    · exact N7
    · exact N8
    · exact N10
    · exact N11
    · exact N12
    · exact N13
    · exact N14
  · rcases (show i = 0 ∨ i = 1 ∨ i = 2 ∨ i = 3 ∨ i = 4 ∨ i = 5 ∨ i = 6 ∨ i = 7 by omega) with rfl | rfl | rfl | rfl | rfl | rfl | rfl | rfl
    · exact B6
    · exact B7
    · exact B8
    · exact B10
    · exact B11
    · exact B12
    · exact B13
    · exact B14
end Go.Proofs.YtleeklcpbflfhaaGreatDoor
