/- Regions that draw their order and call what makes memory: one walk, in every world behind the first. -/
import Derived.Test.YtpcmhaflmpcicaaDoorLnMem
import Derived.BigQuiet
namespace Go.Proofs.YtpcmhaflmpcicaaDoor
open Go.RowKit

structure After (W : World) where
  wd : World
  gr : Gr W wd
instance afterNonempty (W : World) : Nonempty (After W) := ⟨⟨W, Gr.refl W⟩⟩
theorem wp_region_after {id : Nat} {Q : Exit → Act → World → Prop} {a : Act} {W : World} {l : List Oper} (hm : Tryd.prog.follows .mixedOrders = true) (hB : Region.lexB .any l.toArray = true)
    (h : wpQuiet Tryd.prog l.toArray (fun w' => ∃ u : After W, w' = u.wd) (fun a' => ∀ w', (∃ u : After W, w' = u.wd) → Q .normal a' w') l a) : (Code.region id l.toArray true).wp Tryd.prog Q a W :=
  wp_region_quiet (C := fun w' => ∃ u : After W, w' = u.wd) hm hB ⟨⟨_, (Gr.refl W).drew⟩, rfl⟩ (by simpa using h)
theorem qafter {f : FuncId} {args : Array Value} {W : World} {u : After W} {v : Value} (h : Calls Tryd.prog f args u.wd fun e w' => e = .returned v ∧ Gr u.wd w') :
    Calls Tryd.prog f args u.wd fun e w'' => e = .returned v ∧ ∃ u' : After W, w'' = u'.wd := h.mono fun _ w' ⟨he, hg⟩ => ⟨he, ⟨w', u.gr.trans hg⟩, rfl⟩
theorem after_cell {W : World} {p : Addr} {v : Value} (h : W.cell? p = some v) (u : After W) : u.wd.cell? p = some v := (u.gr.below.cell (World.block_lt_of_cell? _ _ h)).trans h
namespace Ln
theorem Ixp.uniq {ps : List Par} {nm : List UInt8} {v v' : Int} (h : Ixp ps nm v) (h' : Ixp ps nm v') : v = v' := by
  have key : ∀ i (hi : i < ps.length), ps[i].1 = nm → ∀ j, i < j → nm ∈ (ps.take j).map Prod.fst := fun i hi e j hij =>
    List.mem_map.2 ⟨ps[i], by rw [List.mem_take_iff_getElem]; exact ⟨i, by omega, rfl⟩, e⟩
  rcases h with ⟨rfl, h⟩ | ⟨i, hi, rfl, h1, h2⟩ <;> rcases h' with ⟨rfl, h'⟩ | ⟨j, hj, rfl, h3, h4⟩
  · rfl
  · exact absurd (List.mem_map.2 ⟨ps[j], List.getElem_mem hj, h3⟩) h
  · exact absurd (List.mem_map.2 ⟨ps[i], List.getElem_mem hi, h1⟩) h'
  · rcases Nat.lt_trichotomy i j with h | h | h
    · exact absurd (key i hi h1 j h) h4
    · rw [h]
    · exact absurd (key j hj h3 i h) h2
theorem Ixp.ex (ps : List Par) (nm : List UInt8) : ∃ v, Ixp ps nm v := by
  induction ps with
  | nil => exact ⟨-1, .inl ⟨rfl, by simp⟩⟩
  | cons p ps ih =>
    by_cases hp : p.1 = nm
    · exact ⟨0, .inr ⟨0, by simp, rfl, hp, by simp⟩⟩
    · obtain ⟨v, h⟩ := ih
      rcases h with ⟨rfl, h⟩ | ⟨i, hi, rfl, h1, h2⟩
      · exact ⟨-1, .inl ⟨rfl, by simp only [List.map_cons, List.mem_cons, not_or]; exact ⟨fun e => hp e.symm, h⟩⟩⟩
      · exact ⟨((i + 1 : Nat) : Int), .inr ⟨i + 1, by simpa using hi, rfl, by simpa using h1, by simp only [List.take_succ_cons, List.map_cons, List.mem_cons, not_or]; exact ⟨fun e => hp e.symm, h2⟩⟩⟩
noncomputable def ixv (ps : List Par) (nm : List UInt8) : Int := (Ixp.ex ps nm).choose
theorem ixv_is (ps : List Par) (nm : List UInt8) : Ixp ps nm (ixv ps nm) := (Ixp.ex ps nm).choose_spec
end Ln
theorem index_val (name : ByteArray) (A : Option Addr) (n c : Nat) (ps : List Ln.Par) (w : World) (hP : Pars w w.heap.size A n ps) (hn : n ≤ 140737488355328) :
    Calls Tryd.prog 25 #[.slice A n c, .string name] w fun e w' => e = .returned (.int .i64 (Ln.ixv ps name.data.toList)) ∧ Gr w w' :=
  (index_any name A n c ps w hP hn).mono fun _ _ ⟨v, h1, h2, h3⟩ => ⟨by rw [h1, h2.uniq (Ln.ixv_is _ _)], h3⟩
end Go.Proofs.YtpcmhaflmpcicaaDoor
