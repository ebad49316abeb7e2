/- The texts RcRow, RcRead, Laid, RcRead2, one behind the other. -/
import Derived.Test.YtmbmkldcedkbmaaGreatRows
import Derived.Test.YtmbmkldcedkbmaaGreatZE
import Derived.Deep.Strs
import Derived.Deep.SlicePairs
import Derived.Lib.SmallJoins
import Derived.Lib.LaidU8
import Derived.Stop.LaidErr
import Derived.SizedLaws
import Derived.ProofKit
import Derived.Carry
import Derived.ChangeMaps5
import Derived.ChangeSlices
import Derived.Test.YtmbmkldcedkbmaaGreatZC
import Derived.Lib.LaidTab
namespace Go.Proofs.YtmbmkldcedkbmaaGreat
open Go.RowKit Go.ChangeShapes Go.ChangeAt Go.WideShapes

/- a table of texts, cell by cell -/
theorem strs_tab {H : Type} {enc : TypeId × Value → H} {P : Program} {w : World} {base : Nat} {sp : Nat → Bool} {held : Bool} {fuel : Nat} {t e : TypeId} {n : Nat} {cs : List Value} {ls : List (List UInt8)} {p : List MemPlace}
    (ht : P.underlying t = some (.array n e)) (he : P.underlying e = some .string) (hc : P.cellsOf e = 1) (h : DataW.trod enc P w base sp held fuel t cs = some (.agg (ls.map fun l => .lit (.string l)), p)) (i : Nat) (hi : i < n) (x : List UInt8) (hx : ls[i]? = some x) : cs[i]? = some (.string ⟨x.toArray⟩) := by
  obtain ⟨f2, d, q, hd, hf⟩ := Lib.array_elem ht h i hi
  rw [List.getElem?_map, hx] at hd
  obtain rfl := (Option.some.inj hd).symm
  rw [hc, Nat.mul_one] at hf
  obtain ⟨s, h1, h2, _⟩ := DataW.trod_string he hf
  have h3 : x = s.data.toList := by
    have := congrArg Prod.fst h2
    simpa using this
  have h4 : cs[i]? = some (.string s) := by
    have := congrArg (fun l : List Value => l[0]?) h1
    simpa [List.getElem?_take, List.getElem?_drop] using this
  rw [h4, h3]
theorem tab_at {W : World} {nm : String} {g n : Nat} {t : TypeId} {ls : List (List UInt8)} (hg : Tryz.prog.globalNamed nm = some g) (hty : (Tryz.prog.globals[g]?).map (·.type) = some t) (ht : Tryz.prog.underlying t = some (.array n 9))
    (h : Lib.VarReads Tryz.prog W nm (.agg (ls.map fun l => .lit (.string l)))) (hl : ls.length = n) : ∀ (i : Nat) x, ls[i]? = some x → W.cell? ⟨g, i, none⟩ = some (.string ⟨x.toArray⟩) := by
  intro i x hx
  obtain ⟨g', t', cs, fuel, p, hg', hty', hvar, hd⟩ := h
  obtain rfl := Option.some.inj (hg.symm.trans hg')
  obtain rfl := Option.some.inj (hty.symm.trans hty')
  have hi := (List.getElem?_eq_some_iff.1 hx).1
  rw [World.var?_cell hg hvar i, ← Array.getElem?_toList]
  exact strs_tab ht Tryz.underlying9 (by kernel_rfl) hd i (by omega) x hx
theorem weigh {H : Type} {P : Program} {ts : List TypeId} {ds : List (DataW H)} (h : (DataW.weightsEach P ts ds).all (· ≤ reachBytes) = true) {j : Nat} {t : TypeId} {d : DataW H} (ht : ts[j]? = some t) (hd : ds[j]? = some d) :
    ∀ n ∈ d.weights P t, n ≤ reachBytes := fun n hn => of_decide_eq_true (List.all_eq_true.1 h n (DataW.weights_mem_each ht hd n hn))
theorem laidOut8 : laidOutB Tryz.prog = true := by kernel_rfl
theorem reach8 : reachBytes = 140737488351232 := by decide
theorem cellsInt : Tryz.prog.cellsOf 3 = 1 := by kernel_rfl
theorem bytesInt : Tryz.prog.bytesOf 3 = 8 := by kernel_rfl
theorem cellsDay : Tryz.prog.cellsOf 64 = 2 := by kernel_rfl
theorem bytesDay : Tryz.prog.bytesOf 64 = 16 := by kernel_rfl
/- a text that came in -/
set_option maxRecDepth 100000 in
theorem read_str {H : Type} {enc : TypeId × Value → H} {W : World} {base : Nat} {v : Value} {d : DataW H} {p : List MemPlace}
    (h : DataW.Trod enc Tryz.prog W 0 (fun _ => true) true 9 v d p) (hok : Value.okWide Tryz.prog W .any base 9 v) (hw : ∀ n ∈ d.weights Tryz.prog 9, n ≤ reachBytes) :
    ∃ s : ByteArray, v = .string s ∧ s.size ≤ 140737488355328 := by
  obtain ⟨s, rfl, rfl, rfl, _⟩ := Go.ChangeMaps.open_string Tryz.underlying9 hok h
  refine ⟨s, rfl, ?_⟩
  have := hw s.data.toList.length (by simp [DataW.weights])
  rw [reach8] at this
  rw [Lib.size_eq]; omega
/- a list of numbers, from its cell -/
set_option maxRecDepth 100000 in
theorem cell_nums {H : Type} {enc : TypeId × Value → H} {W : World} {fuel : Nat} {v : Value} {x : DataW H × List MemPlace}
    (hf : DataW.trod enc Tryz.prog W 0 (fun _ => true) true fuel 24 [v] = some x) (hw : ∀ n ∈ x.1.weights Tryz.prog 24, n ≤ reachBytes) :
    ∃ A n c zs, v = .slice A n c ∧ Nums W W.heap.size A n zs ∧ n ≤ 140737488355328 := by
  rcases open_ints Tryz.underlying24 Tryz.underlying3 cellsInt hf with ⟨hc, _⟩ | ⟨a, len, cap, zs, hc, _, hl, hm, hzl, rfl, hcell, hwf⟩
  · simp at hc
    subst hc
    exact ⟨none, 0, 0, [], rfl, Nums.nil _ _ _, by omega⟩
  · simp at hc
    subst hc
    have hlz : len ≤ zs.length := by rw [hzl]; split <;> omega
    refine ⟨some a, len, cap, zs.take len, rfl, ⟨by rw [List.length_take]; omega, fun hp => ⟨a, rfl, ?_, fun j u hu => ?_⟩⟩, ?_⟩
    · have := World.block_lt_of_cell? _ _ (hcell 0 (by omega))
      rwa [add_block] at this
    · have hj : j < len := by
        have := (List.getElem?_eq_some_iff.1 hu).1
        rw [List.length_take] at this; omega
      rw [List.getElem?_take, if_pos hj] at hu
      have hu2 : zs.getD j 0 = u := by rw [List.getD_eq_getElem?_getD, hu]; rfl
      have h1 := hcell j (by omega)
      rw [hu2] at h1
      exact h1
    · simp only [DataW.weights, Tryz.underlying24, List.mem_cons, List.mem_append] at hw
      have := hw _ (.inl rfl)
      rw [bytesInt, reach8] at this
      simp only [lits, List.length_map, List.length_take, List.length_drop] at this
      omega
/- a list of weekdays, from its cell -/
theorem add_two (a : Addr) (i : Nat) : a.add (i * 2 + 1) = ⟨(a.add (i * 2)).block, (a.add (i * 2)).off + 1, none⟩ := by
  rw [← Deep.add_add]
  rfl
set_option maxRecDepth 100000 in
theorem cell_days {H : Type} {enc : TypeId × Value → H} {W : World} {fuel : Nat} {v : Value} {x : DataW H × List MemPlace}
    (hf : DataW.trod enc Tryz.prog W 0 (fun _ => true) true fuel 25 [v] = some x) (hw : ∀ n ∈ x.1.weights Tryz.prog 25, n ≤ reachBytes) :
    ∃ A n c zs, v = .slice A n c ∧ Days W W.heap.size A n zs ∧ n ≤ 140737488355328 := by
  rcases Deep.open_slice_pairs Tryz.underlying25 Tryz.underlying64 cellsDay rfl rfl cellsInt cellsInt hf with ⟨hc, _⟩ | ⟨a, len0, cap0, m, n1, V0, V1, D0, D1, P0, P1, hc, _, hl, hm, hmm, rfl, hcell⟩
  · simp at hc
    subst hc
    exact ⟨none, 0, 0, [], rfl, Pr2.nil _ _ _, by omega⟩
  · simp at hc
    subst hc
    have hlm : len0 ≤ m := by rw [hmm]; split <;> omega
    have hex : ∀ i, i < m → ∃ z : Int × Int, V0 i = .int .i64 z.1 ∧ V1 i = .int .i64 z.2 := fun i hi => by
      obtain ⟨_, _, h0, h1⟩ := hcell i hi
      obtain ⟨z0, e0, _⟩ := DataW.trod_int Tryz.underlying3 h0
      obtain ⟨z1, e1, _⟩ := DataW.trod_int Tryz.underlying3 h1
      exact ⟨(z0, z1), by simpa using e0, by simpa using e1⟩
    have hch : ∃ f : Nat → Int × Int, ∀ i, i < m → V0 i = .int .i64 (f i).1 ∧ V1 i = .int .i64 (f i).2 :=
      ⟨fun i => if h : i < m then (hex i h).choose else (0, 0), fun i hi => by simp only [hi, dif_pos]; exact (hex i hi).choose_spec⟩
    obtain ⟨f, hfg⟩ := hch
    refine ⟨some a, len0, cap0, (List.range len0).map f, rfl, ⟨by simp, fun hp => ⟨a, rfl, ?_, fun j u hu => ?_⟩⟩, ?_⟩
    · have := World.block_lt_of_cell? _ _ (hcell 0 (by omega)).1
      rwa [add_block] at this
    · have hj : j < len0 := by
        have := (List.getElem?_eq_some_iff.1 hu).1
        simpa using this
      rw [List.getElem?_map, List.getElem?_range hj] at hu
      simp only [Option.map_some, Option.some.injEq] at hu
      subst hu
      obtain ⟨h0, h1, _, _⟩ := hcell j (by omega)
      obtain ⟨e1, e2⟩ := hfg j (by omega)
      rw [e1] at h0
      rw [e2, add_two] at h1
      exact ⟨h0, h1⟩
    · simp only [DataW.weights, Tryz.underlying25, List.mem_cons, List.mem_append] at hw
      have := hw _ (.inl rfl)
      rw [bytesDay, reach8] at this
      simp only [List.length_map, List.length_range] at this
      omega
/- the row's 'post' of a law that turns nothing -/
theorem post_of_gr2 {H : Type} {enc : TypeId × Value → H} {P : Program} {f : Func} {s : ChangeSpec} {apart fresh handsOn : Bool} {W W' : World} {args : Array Value} {v : Value} {ds gs : List (DataW H)} {before pa : List MemPlace}
    (hW : DataW.Whole enc P f.params.toList s.vars apart W args.toList ds gs before)
    (hres : DataW.TrodAll enc P W' (match fresh with | true => W.heap.size | false => 0) (fun _ => false) handsOn f.resultTypes.toList (v.resultList f.resultTypes.size) (s.fn H (ds ++ gs)).results [])
    (hargs : DataW.TrodAll enc P W' 0 (fun b => decide (b < W.heap.size)) true f.params.toList args.toList (s.fn H (ds ++ gs)).args pa)
    (hvars : DataW.TrodVars enc P W' (fun b => decide (b < W.heap.size)) s.vars (s.fn H (ds ++ gs)).vars []) (hg : Gr W W') :
    s.post enc P f apart fresh handsOn false W args v W' :=
  ⟨ds, gs, before, [], pa, [], hW, hres, hargs, hvars, hg.below.frame _, fun h => by cases h⟩
end Go.Proofs.YtmbmkldcedkbmaaGreat
namespace Go.Proofs.YtmbmkldcedkbmaaGreat
open Go.RowKit Go.ChangeShapes Go.ChangeAt Go.WideShapes

theorem array17 {α : Type} {cs : Array α} (h : cs.size = 17) : ∃ c0 c1 c2 c3 c4 c5 c6 c7 c8 c9 c10 c11 c12 c13 c14 c15 c16, cs = #[c0, c1, c2, c3, c4, c5, c6, c7, c8, c9, c10, c11, c12, c13, c14, c15, c16] := by
  obtain ⟨l⟩ := cs
  match l, h with
  | [c0, c1, c2, c3, c4, c5, c6, c7, c8, c9, c10, c11, c12, c13, c14, c15, c16], _ => exact ⟨c0, c1, c2, c3, c4, c5, c6, c7, c8, c9, c10, c11, c12, c13, c14, c15, c16, rfl⟩
theorem list15 {α : Type} {l : List α} (h : l.length = 15) : ∃ y0 y1 y2 y3 y4 y5 y6 y7 y8 y9 y10 y11 y12 y13 y14, l = [y0, y1, y2, y3, y4, y5, y6, y7, y8, y9, y10, y11, y12, y13, y14] := by
  match l, h with
  | [y0, y1, y2, y3, y4, y5, y6, y7, y8, y9, y10, y11, y12, y13, y14], _ => exact ⟨y0, y1, y2, y3, y4, y5, y6, y7, y8, y9, y10, y11, y12, y13, y14, rfl⟩
theorem cellsRule : Tryz.prog.cellsOf 27 = 17 := by kernel_rfl
theorem cellsTime : Tryz.prog.cellsOf 23 = 3 := by kernel_rfl
theorem cellsLI : Tryz.prog.cellsOf 24 = 1 := by kernel_rfl
theorem cellsLD : Tryz.prog.cellsOf 25 = 1 := by kernel_rfl
theorem cellsB : Tryz.prog.cellsOf 4 = 1 := by kernel_rfl
theorem cellsI64 : Tryz.prog.cellsOf 2 = 1 := by kernel_rfl
theorem cellsS : Tryz.prog.cellsOf 9 = 1 := by kernel_rfl
set_option maxRecDepth 100000 in
set_option maxHeartbeats 4000000 in
theorem read_rule {H : Type} {enc : TypeId × Value → H} {W : World} {base : Nat} {v : Value} {d : DataW H} {p : List MemPlace}
    (h : DataW.Trod enc Tryz.prog W 0 (fun _ => true) true 27 v d p) (hok : Value.okWide Tryz.prog W .any base 27 v) (hw : ∀ n ∈ d.weights Tryz.prog 27, n ≤ reachBytes) :
    ∃ V : Rm.Rv, v = .agg V.val ∧ RuM W W.heap.size V ∧ V.day.n ≤ 140737488355328 ∧ ∀ i, i < 8 → (V.sl i).n ≤ 140737488355328 := by
  obtain ⟨cs, rfl, hsz⟩ := okWide_struct Tryz.underlying27 hok
  obtain ⟨c0, c1, c2, c3, c4, c5, c6, c7, c8, c9, c10, c11, c12, c13, c14, c15, c16, rfl⟩ := array17 (hsz.trans cellsRule)
  obtain ⟨fuel, hf⟩ := h
  obtain ⟨xs, n, _, hx, _, hlen, hF⟩ := DataW.trod_struct Tryz.underlying27 hf
  obtain ⟨y0, y1, y2, y3, y4, y5, y6, y7, y8, y9, y10, y11, y12, y13, y14, rfl⟩ := list15 hlen
  simp only [Prod.mk.injEq] at hx
  obtain ⟨rfl, rfl⟩ := hx
  simp only [DataW.weights, Tryz.underlying27, DataW.weightsEach, List.map_cons, List.map_nil, List.mem_append] at hw
  have h0 := hF 0 _ rfl
  have h1 := hF 1 _ rfl
  have h2 := hF 2 _ rfl
  have h3 := hF 3 _ rfl
  have h4 := hF 4 _ rfl
  have h5 := hF 5 _ rfl
  have h6 := hF 6 _ rfl
  have h7 := hF 7 _ rfl
  have h8 := hF 8 _ rfl
  have h9 := hF 9 _ rfl
  have h10 := hF 10 _ rfl
  have h11 := hF 11 _ rfl
  have h12 := hF 12 _ rfl
  have h13 := hF 13 _ rfl
  have h14 := hF 14 _ rfl
  simp [Value.cells, cellsInt] at h0
  simp [Value.cells, cellsInt] at h1
  simp [Value.cells, cellsInt] at h2
  simp [Value.cells, cellsTime] at h3
  simp [Value.cells, cellsB] at h4
  simp [Value.cells, cellsInt] at h5
  simp [Value.cells, cellsLI] at h6
  simp [Value.cells, cellsLI] at h7
  simp [Value.cells, cellsLI] at h8
  simp [Value.cells, cellsLD] at h9
  simp [Value.cells, cellsLI] at h10
  simp [Value.cells, cellsLI] at h11
  simp [Value.cells, cellsLI] at h12
  simp [Value.cells, cellsLI] at h13
  simp [Value.cells, cellsLI] at h14
  clear hF hf hsz hok
  obtain ⟨z0, e0, _⟩ := DataW.trod_int Tryz.underlying3 h0
  obtain ⟨z1, e1, _⟩ := DataW.trod_int Tryz.underlying3 h1
  obtain ⟨z2, e2, _⟩ := DataW.trod_int Tryz.underlying3 h2
  obtain ⟨t0, t1, t2, m, _, _, k0, k1, k2⟩ := Deep.trod_struct3 Tryz.underlying23 h3
  simp [cellsInt] at k0
  simp [cellsI64] at k1
  simp [cellsS] at k2
  obtain ⟨z3, e3, _⟩ := DataW.trod_int Tryz.underlying3 k0
  obtain ⟨z4, e4, _⟩ := DataW.trod_int Tryz.underlying2 k1
  obtain ⟨z5, e5, _⟩ := DataW.trod_string Tryz.underlying9 k2
  obtain ⟨z6, e6, _⟩ := DataW.trod_bool Tryz.underlying4 h4
  obtain ⟨z7, e7, _⟩ := DataW.trod_int Tryz.underlying3 h5
  obtain ⟨A6, n6, m6, s6, rfl, N6, B6⟩ := cell_nums h6 (fun k hk => hw k (.inr (.inr (.inr (.inr (.inr (.inr (.inl hk))))))))
  obtain ⟨A7, n7, m7, s7, rfl, N7, B7⟩ := cell_nums h7 (fun k hk => hw k (.inr (.inr (.inr (.inr (.inr (.inr (.inr (.inl hk)))))))))
  obtain ⟨A8, n8, m8, s8, rfl, N8, B8⟩ := cell_nums h8 (fun k hk => hw k (.inr (.inr (.inr (.inr (.inr (.inr (.inr (.inr (.inl hk))))))))))
  obtain ⟨A9, n9, m9, s9, rfl, N9, B9⟩ := cell_days h9 (fun k hk => hw k (.inr (.inr (.inr (.inr (.inr (.inr (.inr (.inr (.inr (.inl hk)))))))))))
  obtain ⟨A10, n10, m10, s10, rfl, N10, B10⟩ := cell_nums h10 (fun k hk => hw k (.inr (.inr (.inr (.inr (.inr (.inr (.inr (.inr (.inr (.inr (.inl hk))))))))))))
  obtain ⟨A11, n11, m11, s11, rfl, N11, B11⟩ := cell_nums h11 (fun k hk => hw k (.inr (.inr (.inr (.inr (.inr (.inr (.inr (.inr (.inr (.inr (.inr (.inl hk)))))))))))))
  obtain ⟨A12, n12, m12, s12, rfl, N12, B12⟩ := cell_nums h12 (fun k hk => hw k (.inr (.inr (.inr (.inr (.inr (.inr (.inr (.inr (.inr (.inr (.inr (.inr (.inl hk))))))))))))))
  obtain ⟨A13, n13, m13, s13, rfl, N13, B13⟩ := cell_nums h13 (fun k hk => hw k (.inr (.inr (.inr (.inr (.inr (.inr (.inr (.inr (.inr (.inr (.inr (.inr (.inr (.inl hk)))))))))))))))
  obtain ⟨A14, n14, m14, s14, rfl, N14, B14⟩ := cell_nums h14 (fun k hk => hw k (.inr (.inr (.inr (.inr (.inr (.inr (.inr (.inr (.inr (.inr (.inr (.inr (.inr (.inr (.inl hk))))))))))))))))
  simp at e0 e1 e2 e3 e4 e5 e6 e7
  subst e0 e1 e2 e3 e4 e5 e6 e7
  refine ⟨⟨⟨z0, z1, z2, z3, z4, z5.data.toList, z6, z7, s6, s7, s8, s9, s10, s11, s12, s13, s14⟩, z5, ⟨A6, n6, m6⟩, ⟨A7, n7, m7⟩, ⟨A8, n8, m8⟩, ⟨A9, n9, m9⟩, ⟨A10, n10, m10⟩, ⟨A11, n11, m11⟩, ⟨A12, n12, m12⟩, ⟨A13, n13, m13⟩, ⟨A14, n14, m14⟩⟩, rfl, ⟨rfl, fun i hi => ?_, N9⟩, B9, fun i hi => ?_⟩
  · rcases (show i = 0 ∨ i = 1 ∨ i = 2 ∨ i = 3 ∨ i = 4 ∨ i = 5 ∨ i = 6 ∨ i = 7 by omega) with rfl | rfl | rfl | rfl | rfl | rfl | rfl | rfl
    · exact N6
    · exact N7
    · exact N8
    · exact N10
    · exact N11
    · exact N12
    · exact N13
    · exact N14
  · rcases (show i = 0 ∨ i = 1 ∨ i = 2 ∨ i = 3 ∨ i = 4 ∨ i = 5 ∨ i = 6 ∨ i = 7 by omega) with rfl | rfl | rfl | rfl | rfl | rfl | rfl | rfl
    · exact B6
    · exact B7
    · exact B8
    · exact B10
    · exact B11
    · exact B12
    · exact B13
    · exact B14
end Go.Proofs.YtmbmkldcedkbmaaGreat
namespace Go.Proofs.YtmbmkldcedkbmaaGreat
open Go.RowKit

theorem cellsU64 : Tryz.prog.cellsOf 149 = 1 := by kernel_rfl
end Go.Proofs.YtmbmkldcedkbmaaGreat
namespace Go.Proofs.YtmbmkldcedkbmaaGreat
open Go.RowKit Go.ChangeShapes Go.ChangeAt Go.WideShapes

set_option maxRecDepth 100000 in
set_option maxHeartbeats 4000000 in
theorem read_rule2 {H : Type} {enc : TypeId × Value → H} {W : World} {base : Nat} {v : Value} {d : DataW H} {p : List MemPlace}
    (h : DataW.Trod enc Tryz.prog W 0 (fun _ => true) true 27 v d p) (hok : Value.okWide Tryz.prog W .any base 27 v) (hw : ∀ n ∈ d.weights Tryz.prog 27, n ≤ reachBytes) :
    ∃ V : Rm.Rv, v = .agg V.val ∧ RuM W W.heap.size V ∧ V.z.size ≤ 9223372036854775807 ∧ V.day.n ≤ 140737488355328 ∧ ∀ i, i < 8 → (V.sl i).n ≤ 140737488355328 := by
  obtain ⟨cs, rfl, hsz⟩ := okWide_struct Tryz.underlying27 hok
  obtain ⟨c0, c1, c2, c3, c4, c5, c6, c7, c8, c9, c10, c11, c12, c13, c14, c15, c16, rfl⟩ := array17 (hsz.trans cellsRule)
  obtain ⟨fuel, hf⟩ := h
  obtain ⟨xs, n, _, hx, _, hlen, hF⟩ := DataW.trod_struct Tryz.underlying27 hf
  obtain ⟨y0, y1, y2, y3, y4, y5, y6, y7, y8, y9, y10, y11, y12, y13, y14, rfl⟩ := list15 hlen
  simp only [Prod.mk.injEq] at hx
  obtain ⟨rfl, rfl⟩ := hx
  simp only [DataW.weights, Tryz.underlying27, DataW.weightsEach, List.map_cons, List.map_nil, List.mem_append] at hw
  have h0 := hF 0 _ rfl
  have h1 := hF 1 _ rfl
  have h2 := hF 2 _ rfl
  have h3 := hF 3 _ rfl
  have h4 := hF 4 _ rfl
  have h5 := hF 5 _ rfl
  have h6 := hF 6 _ rfl
  have h7 := hF 7 _ rfl
  have h8 := hF 8 _ rfl
  have h9 := hF 9 _ rfl
  have h10 := hF 10 _ rfl
  have h11 := hF 11 _ rfl
  have h12 := hF 12 _ rfl
  have h13 := hF 13 _ rfl
  have h14 := hF 14 _ rfl
  simp [Value.cells, cellsInt] at h0
  simp [Value.cells, cellsInt] at h1
  simp [Value.cells, cellsInt] at h2
  simp [Value.cells, cellsTime] at h3
  simp [Value.cells, cellsB] at h4
  simp [Value.cells, cellsInt] at h5
  simp [Value.cells, cellsLI] at h6
  simp [Value.cells, cellsLI] at h7
  simp [Value.cells, cellsLI] at h8
  simp [Value.cells, cellsLD] at h9
  simp [Value.cells, cellsLI] at h10
  simp [Value.cells, cellsLI] at h11
  simp [Value.cells, cellsLI] at h12
  simp [Value.cells, cellsLI] at h13
  simp [Value.cells, cellsLI] at h14
  clear hF hf hsz hok
  obtain ⟨z0, e0, _⟩ := DataW.trod_int Tryz.underlying3 h0
  obtain ⟨z1, e1, _⟩ := DataW.trod_int Tryz.underlying3 h1
  obtain ⟨z2, e2, _⟩ := DataW.trod_int Tryz.underlying3 h2
  obtain ⟨t0, t1, t2, m, _, _, k0, k1, k2⟩ := Deep.trod_struct3 Tryz.underlying23 h3
  simp [cellsInt] at k0
  simp [cellsI64] at k1
  simp [cellsS] at k2
  obtain ⟨z3, e3, _⟩ := DataW.trod_int Tryz.underlying3 k0
  obtain ⟨z4, e4, _⟩ := DataW.trod_int Tryz.underlying2 k1
  obtain ⟨z5, e5, L5⟩ := DataW.trod_string Tryz.underlying9 k2
  obtain ⟨z6, e6, _⟩ := DataW.trod_bool Tryz.underlying4 h4
  obtain ⟨z7, e7, _⟩ := DataW.trod_int Tryz.underlying3 h5
  obtain ⟨A6, n6, m6, s6, rfl, N6, B6⟩ := cell_nums h6 (fun k hk => hw k (.inr (.inr (.inr (.inr (.inr (.inr (.inl hk))))))))
  obtain ⟨A7, n7, m7, s7, rfl, N7, B7⟩ := cell_nums h7 (fun k hk => hw k (.inr (.inr (.inr (.inr (.inr (.inr (.inr (.inl hk)))))))))
  obtain ⟨A8, n8, m8, s8, rfl, N8, B8⟩ := cell_nums h8 (fun k hk => hw k (.inr (.inr (.inr (.inr (.inr (.inr (.inr (.inr (.inl hk))))))))))
  obtain ⟨A9, n9, m9, s9, rfl, N9, B9⟩ := cell_days h9 (fun k hk => hw k (.inr (.inr (.inr (.inr (.inr (.inr (.inr (.inr (.inr (.inl hk)))))))))))
  obtain ⟨A10, n10, m10, s10, rfl, N10, B10⟩ := cell_nums h10 (fun k hk => hw k (.inr (.inr (.inr (.inr (.inr (.inr (.inr (.inr (.inr (.inr (.inl hk))))))))))))
  obtain ⟨A11, n11, m11, s11, rfl, N11, B11⟩ := cell_nums h11 (fun k hk => hw k (.inr (.inr (.inr (.inr (.inr (.inr (.inr (.inr (.inr (.inr (.inr (.inl hk)))))))))))))
  obtain ⟨A12, n12, m12, s12, rfl, N12, B12⟩ := cell_nums h12 (fun k hk => hw k (.inr (.inr (.inr (.inr (.inr (.inr (.inr (.inr (.inr (.inr (.inr (.inr (.inl hk))))))))))))))
  obtain ⟨A13, n13, m13, s13, rfl, N13, B13⟩ := cell_nums h13 (fun k hk => hw k (.inr (.inr (.inr (.inr (.inr (.inr (.inr (.inr (.inr (.inr (.inr (.inr (.inr (.inl hk)))))))))))))))
  obtain ⟨A14, n14, m14, s14, rfl, N14, B14⟩ := cell_nums h14 (fun k hk => hw k (.inr (.inr (.inr (.inr (.inr (.inr (.inr (.inr (.inr (.inr (.inr (.inr (.inr (.inr (.inl hk))))))))))))))))
  simp at e0 e1 e2 e3 e4 e5 e6 e7
  subst e0 e1 e2 e3 e4 e5 e6 e7
  refine ⟨⟨⟨z0, z1, z2, z3, z4, z5.data.toList, z6, z7, s6, s7, s8, s9, s10, s11, s12, s13, s14⟩, z5, ⟨A6, n6, m6⟩, ⟨A7, n7, m7⟩, ⟨A8, n8, m8⟩, ⟨A9, n9, m9⟩, ⟨A10, n10, m10⟩, ⟨A11, n11, m11⟩, ⟨A12, n12, m12⟩, ⟨A13, n13, m13⟩, ⟨A14, n14, m14⟩⟩, rfl, ⟨rfl, fun i hi => ?_, N9⟩, Nat.le_trans L5.2 (by decide), B9, fun i hi => ?_⟩
  · rcases (show i = 0 ∨ i = 1 ∨ i = 2 ∨ i = 3 ∨ i = 4 ∨ i = 5 ∨ i = 6 ∨ i = 7 by omega) with rfl | rfl | rfl | rfl | rfl | rfl | rfl | rfl
    · exact N6
    · exact N7
    · exact N8
    · exact N10
    · exact N11
    · exact N12
    · exact N13
    · exact N14
  · rcases (show i = 0 ∨ i = 1 ∨ i = 2 ∨ i = 3 ∨ i = 4 ∨ i = 5 ∨ i = 6 ∨ i = 7 by omega) with rfl | rfl | rfl | rfl | rfl | rfl | rfl | rfl
    · exact B6
    · exact B7
    · exact B8
    · exact B10
    · exact B11
    · exact B12
    · exact B13
    · exact B14
end Go.Proofs.YtmbmkldcedkbmaaGreat
