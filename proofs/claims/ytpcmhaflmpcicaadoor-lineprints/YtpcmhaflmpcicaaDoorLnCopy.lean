/- append([]string{}, values...): a copy of a list of texts. -/
import Derived.Test.YtpcmhaflmpcicaaDoorLnRow
import Derived.Deep.AppendSrc
namespace Go.Proofs.YtpcmhaflmpcicaaDoor
open Go.RowKit

theorem Strs.src {W : World} {Av : Option Addr} {nv cv : Nat} {vs : List (List UInt8)} (hS : Strs W W.heap.size Av nv vs) : Src Tryd.prog 1 44 (.slice Av nv cv) nv (sc vs) W := by
  have hl : vs.length = nv := hS.1
  have h1 : ∀ u ∈ sc vs, u.oneCell' = true := fun u hu => by
    obtain ⟨_, _, rfl⟩ := List.mem_map.1 hu
    rfl
  have hsl : (sc vs).length = nv * 1 := by simp [sc, hl]
  rcases Nat.eq_zero_or_pos nv with h0 | h0
  · subst h0
    have hv : vs = [] := List.eq_nil_of_length_eq_zero hl
    subst hv
    cases Av with
    | none => exact Src.ofNil _ Tryd.underlying44 cv
    | some a => exact Src.ofSlice _ Tryd.underlying44 a 0 cv [] rfl (fun j u hu => by simp at hu) (by simp)
  · obtain ⟨ad, rfl, _, hc⟩ := hS.2 h0
    refine Src.ofSlice _ Tryd.underlying44 ad nv cv (sc vs) hsl (fun j u hu => ?_) h1
    unfold sc at hu
    rw [List.getElem?_map] at hu
    cases hj : vs[j]? with
    | none => rw [hj] at hu; cases hu
    | some t =>
      rw [hj] at hu
      injection hu with hu
      subst hu
      exact hc j t hj
theorem run_copy (W : World) (ty : TypeId) (g : Nat) (Av : Option Addr) (nv cv : Nat) (vs : List (List UInt8)) (hS : Strs W W.heap.size Av nv vs) (hb : nv * 16 ≤ 140737488355328) :
    ∃ A2 c2 w', (Builtin.append_ #[44, 44] ty #[.slice (some ⟨g, 0, none⟩) 0 0, .slice Av nv cv]).run Tryd.prog W = .ok (.slice A2 nv c2) w' ∧ Strs w' w'.heap.size A2 nv vs ∧ Gr W w' ∧ (0 < nv → ∀ ad, A2 = some ad → W.heap.size ≤ ad.block) := by
  obtain ⟨i0, hi, hz0, hz1, hz2⟩ := info_parts info_str
  have hs : Src Tryd.prog i0.size 44 (.slice Av nv cv) nv (sc vs) W := by rw [hz1]; exact hS.src
  have hl : vs.length = nv := hS.1
  rcases Nat.eq_zero_or_pos nv with h0 | h0
  · subst h0
    have hv : vs = [] := List.eq_nil_of_length_eq_zero hl
    subst hv
    have hrun := run_append_room_src (P := Tryd.prog) W 44 44 ty 9 i0 Tryd.underlying44 hi g 0 0 0 (.slice Av 0 cv) 0 (sc []) hs (Nat.le_refl _) (fun j hj => absurd hj (by simp [sc])) (fun j hj => absurd hj (by simp [sc]))
    exact ⟨_, _, _, hrun, Strs.nil _ _ _, Gr.refl _, fun h => absurd h (by omega)⟩
  · have hold : (Builtin.firstCells i0.size 0 (.slice (some ⟨g, 0, none⟩) 0 0)).run Tryd.prog W.drew = .ok ([] : List Value).toArray W.drew :=
      run_firstCells_some (P := Tryd.prog) W.drew i0.size 0 ⟨g, 0, none⟩ 0 0 [] (by simp) (fun j v hv => by simp at hv)
    have hrun := run_append_grow_src (P := Tryd.prog) W 44 44 ty 9 i0 (.string ⟨#[]⟩) Tryd.underlying44 hi hz0 (some ⟨g, 0, none⟩) 0 0 [] hold (.slice Av nv cv) nv (sc vs) hs (by omega) (by omega)
      (by rw [hz2]; exact growslice_fits (by omega) (by omega))
    rw [Nat.zero_add] at hrun
    have hcell := fun j => World.cell?_alloc_new W.drew (([] ++ sc vs).toArray ++ Builtin.zeroCells (Value.string ⟨#[]⟩).cells (grownCap W nv 0 9 - nv)) 9 j
    refine ⟨_, _, _, hrun, ⟨hl, fun _ => ⟨⟨W.heap.size, 0, none⟩, rfl, ?_, fun j u hu => ?_⟩⟩, (Gr.refl W).drew.allocO _, fun _ ad ha => ?_⟩
    · simp
    · rw [add_zero_]
      have hj : j < vs.length := (List.getElem?_eq_some_iff.1 hu).1
      have hc := hcell j
      rw [show (W.drew.heap.size) = W.heap.size from rfl] at hc
      rw [hc, Array.getElem?_append_left (by simp [sc]; exact hj), List.getElem?_toArray, List.nil_append]
      unfold sc
      rw [List.getElem?_map, hu]; rfl
    · injection ha with ha
      subst ha
      exact Nat.le_refl _
theorem st_copy {ops : Array Oper} {o : Oper} {a : Act} {K : Act → World → Prop} {Q : Exit → Act → World → Prop} {E : Prop} (W : World) (hgd : o.guard = none) (sl x : Operand)
    (ho : o.op = .call { callee := .builtin .append, args := #[sl, x], argTypes := #[44, 44] })
    (g : Nat) (hs : a.eval sl = .slice (some ⟨g, 0, none⟩) 0 0) (Av : Option Addr) (nv cv : Nat) (vs : List (List UInt8)) (hx : a.eval x = .slice Av nv cv) (hS : Strs W W.heap.size Av nv vs) (hb : nv * 16 ≤ 140737488355328)
    (h : ∀ A2 c2 w', Strs w' w'.heap.size A2 nv vs → Gr W w' → (0 < nv → ∀ ad, A2 = some ad → W.heap.size ≤ ad.block) → K (a.put o.dst (.slice A2 nv c2)) w') :
    if Region.wanted o (yielded ops a.tmps) = true then Oper.wp Tryd.prog o a W K Q else E := by
  have hw : Region.wanted o (yielded ops a.tmps) = true := by simp [Region.wanted, hgd]
  rw [if_pos hw]
  obtain ⟨A2, c2, w', hrun, h2, h3, h4⟩ := run_copy W o.type g Av nv cv vs hS hb
  unfold Oper.wp execOp
  simp only [ho, resolve, invoke, builtin, Sem.run_bind, Sem.run_pure, Result.andThen_ok, List.map_toArray, List.map_cons, List.map_nil, hs, hx, hrun]
  exact h A2 c2 w' h2 h3 h4
end Go.Proofs.YtpcmhaflmpcicaaDoor
