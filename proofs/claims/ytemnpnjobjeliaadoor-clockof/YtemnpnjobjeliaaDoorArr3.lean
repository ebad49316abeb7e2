/- An argument that is an array of three ints: what it holds, and that it reads so again. -/
import Derived.ProofKit
import Derived.Lib.SmallJoins
import Derived.Lib.LaidTab
namespace Go.Proofs.YtemnpnjobjeliaaDoor
open Go.ChangeShapes Go.WideShapes Go.RowKit Go.Joins

theorem open_int3 {H : Type} {enc : TypeId × Value → H} {P : Program} {w : World} {base : Nat} {sp : Nat → Bool} {held : Bool} {r : Reach} {b0 : Nat} {t e : TypeId} {v : Value} {d : DataW H} {ps : List MemPlace}
    (ht : P.underlying t = some (.array 3 e)) (he : P.underlying e = some (.int .i64)) (hce : P.cellsOf e = 1) (hct : P.cellsOf t = 3)
    (hval : Value.okWide P w r b0 t v) (hd : DataW.Trod enc P w base sp held t v d ps) :
    ∃ x y z : Int, v = .agg #[.int .i64 x, .int .i64 y, .int .i64 z] ∧ d = .agg [.lit (.int .i64 x), .lit (.int .i64 y), .lit (.int .i64 z)] ∧ ps = [] ∧ (Lit.int .i64 x).wf = true ∧ (Lit.int .i64 y).wf = true ∧ (Lit.int .i64 z).wf = true := by
  simp only [Value.okWide, ht] at hval
  obtain ⟨cs, rfl, h2, _⟩ := hval
  obtain ⟨c0, c1, c2, rfl⟩ := array3 (h2.trans hct)
  obtain ⟨fuel, hf⟩ := hd
  cases fuel with
  | zero => simp [DataW.trod] at hf
  | succ m =>
    rw [DataW.trod_step] at hf
    unfold DataW.trodStep at hf
    simp only [ht, hce, hct, Value.cells] at hf
    rw [if_pos (by rfl)] at hf
    simp only [Option.map_eq_some_iff] at hf
    obtain ⟨ys, hy, e1⟩ := hf
    have hl := Lib.mapM_length hy
    rw [List.length_range] at hl
    obtain ⟨y0, k0, j0⟩ := Lib.mapM_at hy 0 0 rfl
    obtain ⟨y1, k1, j1⟩ := Lib.mapM_at hy 1 1 rfl
    obtain ⟨y2, k2, j2⟩ := Lib.mapM_at hy 2 2 rfl
    obtain ⟨x, ex, rfl, wx⟩ := DataW.trod_int he j0
    obtain ⟨y, ey, rfl, wy⟩ := DataW.trod_int he j1
    obtain ⟨z, ez, rfl, wz⟩ := DataW.trod_int he j2
    simp at ex ey ez
    subst ex ey ez
    match ys, hl with
    | [z0, z1, z2], _ =>
      simp only [List.getElem?_cons_zero, List.getElem?_cons_succ, Option.some.injEq] at k0 k1 k2
      subst k0 k1 k2
      simp only [Prod.mk.injEq] at e1
      exact ⟨x, y, z, rfl, e1.1.symm, e1.2.symm, wx, wy, wz⟩
theorem shut_int3 {H : Type} {enc : TypeId × Value → H} {P : Program} {w : World} {base : Nat} {sp : Nat → Bool} {held : Bool} {t e : TypeId} {x y z : Int}
    (ht : P.underlying t = some (.array 3 e)) (he : P.underlying e = some (.int .i64)) (hce : P.cellsOf e = 1) (hct : P.cellsOf t = 3)
    (wx : (Lit.int .i64 x).wf = true) (wy : (Lit.int .i64 y).wf = true) (wz : (Lit.int .i64 z).wf = true) :
    DataW.Trod enc P w base sp held t (.agg #[.int .i64 x, .int .i64 y, .int .i64 z]) (.agg [.lit (.int .i64 x), .lit (.int .i64 y), .lit (.int .i64 z)]) [] := by
  refine ⟨2, ?_⟩
  rw [DataW.trod_step]
  unfold DataW.trodStep
  simp only [ht, hce, hct, Value.cells]
  rw [if_pos (by rfl), show List.range 3 = [0, 1, 2] from rfl]
  simp [List.mapM_cons, DataW.trod, he, wx, wy, wz]
end Go.Proofs.YtemnpnjobjeliaaDoor
