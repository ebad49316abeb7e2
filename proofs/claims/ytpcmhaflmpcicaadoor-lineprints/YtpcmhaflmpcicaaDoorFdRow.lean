/- From a row's arguments to what the walks of stage 8 ask, and back. -/
import Derived.Test.YtpcmhaflmpcicaaDoorRows
import Derived.Test.YtpcmhaflmpcicaaDoorFdMem
import Derived.Deep.Strs
import Derived.Lib.LaidU8
import Derived.Stop.LaidErr
import Derived.SizedLaws
import Derived.ProofKit
import Derived.Carry
import Derived.ChangeMaps5
namespace Go.Proofs.YtpcmhaflmpcicaaDoor
open Go.RowKit Go.ChangeShapes Go.ChangeAt Go.WideShapes

theorem u8x : U8Extra Tryd.prog Tryd.lays196_ren :=
  ⟨by kernel_rfl, by kernel_rfl, by kernel_rfl, by kernel_rfl, by kernel_rfl, by kernel_rfl, by kernel_rfl⟩
/- the two tables, cell by cell, where ValidString is laid -/
open Go.Lib Go.Shelf in
theorem tab_first {W : World} (h : VarReads Tryd.prog W "unicode/utf8.first" firstData) (c : Nat) (hc : c < 256) : W.cell? ⟨0, c, none⟩ = some (.int .u8 (firstT c : Int)) := by
  obtain ⟨g, t, cs, fuel, p, hg, hty, hvar, hd⟩ := h
  have eg : g = 0 := Option.some.inj (hg.symm.trans (show Tryd.prog.globalNamed "unicode/utf8.first" = some 0 by kernel_rfl))
  subst eg
  have et : t = Tryd.lays196_ren.t 119 := Option.some.inj (hty.symm.trans u8x.y3)
  subst et
  have key := cells_of_tab Tryd.lays196.t119 Tryd.lays196.t5 u8x.c5 u8x.c119 hd
  rw [World.var?_cell hg hvar c, ← Array.getElem?_toList, key]
  simp [firstTab, hc]
open Go.Lib Go.Shelf in
theorem tab_accept {W : World} (h : VarReads Tryd.prog W "unicode/utf8.acceptRanges" acceptData) (i : Nat) (hi : i < 16) :
    W.cell? ⟨1, 2 * i, none⟩ = some (.int .u8 (accLo i : Int)) ∧ W.cell? ⟨1, 2 * i + 1, none⟩ = some (.int .u8 (accHi i : Int)) := by
  obtain ⟨g, t, cs, fuel, p, hg, hty, hvar, hd⟩ := h
  have eg : g = 1 := Option.some.inj (hg.symm.trans (show Tryd.prog.globalNamed "unicode/utf8.acceptRanges" = some 1 by kernel_rfl))
  subst eg
  have et : t = Tryd.lays196_ren.t 139 := Option.some.inj (hty.symm.trans u8x.y4)
  subst et
  obtain ⟨fuel2, d, q, hdi, he⟩ := array_elem Tryd.lays196.t139 hd i hi
  have hd2 : d = .agg ([(accLo i : Int), (accHi i : Int)].map fun z => .lit (.int .u8 z)) := by
    rw [List.getElem?_map, List.getElem?_range hi] at hdi
    exact (Option.some.inj hdi).symm
  subst hd2
  rw [u8x.c138] at he
  have two := ints_of_struct Tryd.lays196.t138 (k := .u8) (fun j f hj => by
    rcases j with _ | _ | j
    · have := hj; simp at this; subst this; exact ⟨Tryd.lays196.t5, rfl, u8x.c5⟩
    · have := hj; simp at this; subst this; exact ⟨Tryd.lays196.t5, rfl, u8x.c5⟩
    · simp at hj) (by rw [u8x.c138]; rfl) he
  have z0 : cs.toList[i * 2]? = some (.int .u8 (accLo i : Int)) := by
    have := congrArg (fun l : List Value => l[0]?) two
    simpa [List.getElem?_take, List.getElem?_drop] using this
  have z1 : cs.toList[i * 2 + 1]? = some (.int .u8 (accHi i : Int)) := by
    have := congrArg (fun l : List Value => l[1]?) two
    simpa [List.getElem?_take, List.getElem?_drop] using this
  rw [World.var?_cell hg hvar (2 * i), World.var?_cell hg hvar (2 * i + 1), ← Array.getElem?_toList, ← Array.getElem?_toList, Nat.mul_comm 2 i]
  exact ⟨z0, z1⟩
theorem laid_first : (Rows.laid_unicode_utf8_first : DataW Unit) = Lib.firstData := by kernel_rfl
theorem laid_accept : (Rows.laid_unicode_utf8_acceptRanges : DataW Unit) = Lib.acceptData := by kernel_rfl
theorem tab_of_laid {W : World} (h : laidMet Tryd.prog [("unicode/utf8.acceptRanges", Rows.laid_unicode_utf8_acceptRanges), ("unicode/utf8.first", Rows.laid_unicode_utf8_first)] W) : Tab W := by
  rw [laid_first, laid_accept] at h
  exact ⟨fun c hc => tab_first (Lib.laidMet.reads h (by simp)) c hc, fun i hi => tab_accept (Lib.laidMet.reads h (by simp)) i hi⟩

theorem weigh {H : Type} {P : Program} {ts : List TypeId} {ds : List (DataW H)} (h : (DataW.weightsEach P ts ds).all (· ≤ reachBytes) = true) {j : Nat} {t : TypeId} {d : DataW H} (ht : ts[j]? = some t) (hd : ds[j]? = some d) :
    ∀ n ∈ d.weights P t, n ≤ reachBytes := fun n hn => of_decide_eq_true (List.all_eq_true.1 h n (DataW.weights_mem_each ht hd n hn))
theorem weighAll {H : Type} {P : Program} {e : TypeId} (l : List (DataW H)) (d : DataW H) (hd : d ∈ l) : ∀ n ∈ d.weights P e, n ∈ DataW.weightsAll P e l := by
  induction l with
  | nil => cases hd
  | cons x l ih =>
    intro n hn
    simp only [DataW.weightsAll, List.mem_append]
    rcases List.mem_cons.1 hd with rfl | h
    · exact .inl hn
    · exact .inr (ih h n hn)
theorem laidOut8 : laidOutB Tryd.prog = true := by kernel_rfl
theorem cellsStr : Tryd.prog.cellsOf 9 = 1 := by kernel_rfl
theorem bytesStr : Tryd.prog.bytesOf 9 = 16 := by kernel_rfl
theorem reach8 : reachBytes = 140737488351232 := by decide
/- a list of texts that came in -/
theorem read_strs {H : Type} {enc : TypeId × Value → H} {W : World} {base : Nat} {v : Value} {d : DataW H} {p : List MemPlace}
    (h : DataW.Trod enc Tryd.prog W 0 (fun _ => true) true 44 v d p) (hok : Value.okWide Tryd.prog W .any base 44 v) (hw : ∀ n ∈ d.weights Tryd.prog 44, n ≤ reachBytes) :
    ∃ A n c ls, v = .slice A n c ∧ Strs W W.heap.size A n ls ∧ n ≤ 140737488355328 ∧ ∀ l ∈ ls, l.length ≤ 140737488355328 := by
  obtain ⟨a0, len0, cap0, rfl⟩ := okWide_slice Tryd.underlying44 hok
  obtain ⟨fuel, hf⟩ := h
  rcases Deep.open_strs Tryd.underlying44 Tryd.underlying9 cellsStr hf with ⟨hc, _⟩ | ⟨a, len, cap, m, Sx, hc, _, hl, hm, hmm, hx, hcell⟩
  · simp [Value.cells] at hc
    obtain ⟨rfl, rfl, rfl⟩ := hc
    exact ⟨none, 0, 0, [], rfl, Strs.nil _ _ _, by omega, by simp⟩
  · simp [Value.cells] at hc
    obtain ⟨rfl, rfl, rfl⟩ := hc
    simp only [Prod.mk.injEq] at hx
    obtain ⟨rfl, rfl⟩ := hx
    have hlm : len0 ≤ m := by rw [hmm]; split <;> omega
    simp only [DataW.weights, Tryd.underlying44, List.mem_cons, List.mem_append] at hw
    refine ⟨some a, len0, cap0, (List.range len0).map fun i => (Sx i).data.toList, rfl, ⟨by simp, fun hp => ⟨a, rfl, ?_, fun j u hu => ?_⟩⟩, ?_, ?_⟩
    · have := World.block_lt_of_cell? _ _ (hcell 0 (by omega)).1
      rwa [add_block] at this
    · have hj : j < len0 := by
        have := (List.getElem?_eq_some_iff.1 hu).1
        simpa using this
      rw [List.getElem?_map, List.getElem?_range hj] at hu
      simp only [Option.map_some, Option.some.injEq] at hu
      subst hu
      exact (hcell j (by omega)).1
    · have := hw _ (.inl rfl)
      rw [bytesStr, reach8] at this
      simp only [List.length_map, List.length_range] at this
      omega
    · intro l hl2
      obtain ⟨i, hi, rfl⟩ := List.mem_map.1 hl2
      have := hw (Sx i).data.toList.length (.inr (.inl (weighAll _ (.lit (.string (Sx i).data.toList)) (List.mem_map.2 ⟨i, hi, rfl⟩) _ (by simp [DataW.weights]))))
      rw [reach8] at this
      omega
/- a text that came in -/
theorem read_str {H : Type} {enc : TypeId × Value → H} {W : World} {base : Nat} {v : Value} {d : DataW H} {p : List MemPlace}
    (h : DataW.Trod enc Tryd.prog W 0 (fun _ => true) true 9 v d p) (hok : Value.okWide Tryd.prog W .any base 9 v) (hw : ∀ n ∈ d.weights Tryd.prog 9, n ≤ reachBytes) :
    ∃ s : ByteArray, v = .string s ∧ s.size ≤ 140737488355328 := by
  obtain ⟨s, rfl, rfl, rfl, _⟩ := Go.ChangeMaps.open_string Tryd.underlying9 hok h
  refine ⟨s, rfl, ?_⟩
  have := hw s.data.toList.length (by simp [DataW.weights])
  rw [reach8] at this
  rw [Lib.size_eq]; omega
/- the row's 'post' of a law that turns nothing -/
theorem post_of_gr2 {H : Type} {enc : TypeId × Value → H} {P : Program} {f : Func} {s : ChangeSpec} {apart fresh handsOn : Bool} {W W' : World} {args : Array Value} {v : Value} {ds gs : List (DataW H)} {before pa : List MemPlace}
    (hW : DataW.Whole enc P f.params.toList s.vars apart W args.toList ds gs before)
    (hres : DataW.TrodAll enc P W' (match fresh with | true => W.heap.size | false => 0) (fun _ => false) handsOn f.resultTypes.toList (v.resultList f.resultTypes.size) (s.fn H (ds ++ gs)).results [])
    (hargs : DataW.TrodAll enc P W' 0 (fun b => decide (b < W.heap.size)) true f.params.toList args.toList (s.fn H (ds ++ gs)).args pa)
    (hvars : DataW.TrodVars enc P W' (fun b => decide (b < W.heap.size)) s.vars (s.fn H (ds ++ gs)).vars []) (hg : Gr W W') :
    s.post enc P f apart fresh handsOn false W args v W' :=
  ⟨ds, gs, before, [], pa, [], hW, hres, hargs, hvars, hg.below.frame _, fun h => by cases h⟩
end Go.Proofs.YtpcmhaflmpcicaaDoor
