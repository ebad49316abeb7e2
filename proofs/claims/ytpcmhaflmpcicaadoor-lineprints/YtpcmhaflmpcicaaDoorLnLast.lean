/- Regions that draw their order and end in a store to a cell that they read: what holds of the world is asked behind every operation but that last one. -/
import Derived.Test.YtpcmhaflmpcicaaDoorLnAft
import Derived.Deep.RegionHeld3
namespace Go.Proofs.YtpcmhaflmpcicaaDoor
open Go.RowKit

theorem gr_cell {w w' : World} (h : Gr w w') {p : Addr} {v : Value} (hc : w.cell? p = some v) : w'.cell? p = some v := (h.below.cell (World.block_lt_of_cell? _ _ hc)).trans hc
theorem at_lit {l : List Oper} {i : Nat} {o : Oper} (h : l[i]? = some o) : l.toArray[i]? = some o := by simpa using h
section
variable {ops : Array Oper} {Q : Exit → Act → World → Prop} {S : World → Prop} {k : Nat}
def Wk (ops : Array Oper) (Q : Exit → Act → World → Prop) (S : World → Prop) (k : Nat) : Nat → Array Bool → Act → World → Prop
  | 0, listed, a, w => Region.ready .any ops listed = [] ∧ Q .normal a w
  | m + 1, listed, a, w => (Region.ready .any ops listed = [] → Q .normal a w) ∧
      ∀ i ∈ Region.ready .any ops listed, wpOp Tryd.prog ops Q i (fun a' w' => (i ≠ k → S w') ∧ Wk ops Q S k m (listed.setIfInBounds i true) a' w') a w
theorem Wk.any : ∀ (m : Nat) (listed : Array Bool) (a : Act) (w : World), Wk ops Q S k m listed a w → wpAny Tryd.prog .any ops Q m listed a w
  | 0, _, _, _, h => h
  | m + 1, _, _, _, h => ⟨h.1, fun i hi => wpOp_mono (fun a' w' g => Wk.any m _ a' w' g.2) (h.2 i hi)⟩
theorem ready_unlisted {i : Nat} {listed : Array Bool} (h : i ∈ Region.ready .any ops listed) : listed.getD i false = false := by
  have h0 := (mem_ready.1 h).1
  rcases Nat.lt_or_ge i listed.size with h1 | h1
  · simp [h1] at h0 ⊢; exact h0
  · simp [Array.getElem?_eq_none h1] at h0
/- an operation that yields one value wherever S holds may be taken first; the last operation waits for it -/
theorem Wk.first {i : Nat} {oi ok : Oper} {v : Value} (hi : ops[i]? = some oi) (hk : ops[k]? = some ok) (hw : ok.after.any (fun e => Region.binds .any e && e.on == i) = true) (hs : Region.noSelect ops = true)
    (hQ : ∀ c a w, Q (.panic c) (a.put oi.dst v) w → Q (.panic c) a w) : ∀ (m : Nat) (listed : Array Bool) (a : Act) (w : World),
    (∀ j oj, ops[j]? = some oj → j ≠ i → listed.getD j true = false → (∀ e ∈ oj.after, Region.binds .any e = true → e.on ≠ i) → oi.apart ops oj = true) → i ∈ Region.ready .any ops listed → YieldsIf Tryd.prog ops S oi v a → S w →
    Wk ops Q S k m (listed.setIfInBounds i true) (a.put oi.dst v) w → Wk ops Q S k (m + 1) listed a w := by
  have hsel := Region.noSelect_spec hs
  intro m
  induction m with
  | zero =>
    intro listed a w _ hr hy hS H
    refine ⟨fun e => absurd (e ▸ hr) (by simp), fun j hj => ?_⟩
    by_cases e : j = i
    · subst e; exact hy.wpOp hi hS ⟨fun _ => hS, H⟩
    · have hj2 := ready_mono hj e
      rw [H.1] at hj2; cases hj2
  | succ m ih =>
    intro listed a w hf hr hy hS H
    refine ⟨fun e => absurd (e ▸ hr) (by simp), fun j hj => ?_⟩
    by_cases e : j = i
    · subst e; exact hy.wpOp hi hS ⟨fun _ => hS, H⟩
    · obtain ⟨hun, oj, hoj, hall⟩ := mem_ready.1 hj
      have hno : ∀ x ∈ oj.after, Region.binds .any x = true → x.on ≠ i := fun x hx hb ex => by
        have h1 := hall x hx hb
        rw [ex, ready_unlisted hr] at h1; cases h1
      have hjk : j ≠ k := fun ejk => by
        subst ejk
        obtain rfl : oj = ok := Option.some.inj (hoj.symm.trans hk)
        obtain ⟨x, hx, hb⟩ := Array.any_eq_true'.1 hw
        simp only [Bool.and_eq_true, beq_iff_eq] at hb
        exact hno x hx hb.1 hb.2
      have h2 := wpOp_putIf hoj (hf j oj hoj e hun hno) (fun cs b => hsel i oi cs b hi) (fun cs b => hsel j oj cs b hoj) hQ hy (H.2 j (ready_mono hj e))
      refine wpOp_mono (fun a' w' g => ⟨fun _ => g.2.1 hjk, ih _ a' w' (fun q oq hq hqi hqu hqn => ?_) (ready_mono hr (Ne.symm e)) g.1 (g.2.1 hjk) ?_⟩) h2
      · refine hf q oq hq hqi ?_ hqn
        by_cases ejq : j = q
        · rw [← ejq]; exact hun
        · rw [getD_set_ne true ejq] at hqu; exact hqu
      · rw [Array.setIfInBounds_comm _ _ e]; exact g.2.2
theorem Wk.take {i : Nat} {oi ok : Oper} {v : Value} {m : Nat} {listed : Array Bool} {a : Act} {w : World} (hi : ops[i]? = some oi) (hk : ops[k]? = some ok) (hw : ok.after.any (fun e => Region.binds .any e && e.on == i) = true)
    (hs : Region.noSelect ops = true) (hf : Region.free .any ops listed i = true) (hr : (Region.ready .any ops listed).contains i = true) (hg : oi.guard = none)
    (hQ : ∀ c a w, Q (.panic c) (a.put oi.dst v) w → Q (.panic c) a w) (hy : ∀ w, S w → (execOp a.eval oi).run Tryd.prog w = .ok (.value v) w) (hS : S w)
    (h : Wk ops Q S k m (listed.setIfInBounds i true) (a.put oi.dst v) w) : Wk ops Q S k (m + 1) listed a w :=
  Wk.first hi hk hw hs hQ m listed a w (Region.free_spec hi hf) (by simpa using hr) (.inl ⟨by simp [Region.wanted, hg], hy⟩) hS h
/- the one operation that may come up -/
theorem Wk.one {i : Nat} {oi : Oper} {m : Nat} {listed : Array Bool} {a : Act} {w : World} (hi : ops[i]? = some oi) (hr : Region.ready .any ops listed = [i])
    (h : ∀ K : Act → World → Prop, (∀ a' w', (i ≠ k → S w') → Wk ops Q S k m (listed.setIfInBounds i true) a' w' → K a' w') → if Region.wanted oi (yielded ops a.tmps) = true then Oper.wp Tryd.prog oi a w K Q else K (a.put oi.dst undef) w) : Wk ops Q S k (m + 1) listed a w := by
  refine ⟨fun e => (by rw [hr] at e; cases e), fun j hj => ?_⟩
  rw [hr] at hj
  obtain rfl := List.mem_singleton.1 hj
  exact wpOp_step hi (fun K hK => h K (fun a' w' h1 h2 => hK a' w' ⟨h1, h2⟩))
theorem Wk.done {m : Nat} {listed : Array Bool} {a : Act} {w : World} (hr : Region.ready .any ops listed = []) (h : Q .normal a w) : Wk ops Q S k m listed a w := by
  cases m with
  | zero => exact ⟨hr, h⟩
  | succ m => exact ⟨fun _ => h, by rw [hr]; simp⟩
theorem wp_region_last {id : Nat} {a : Act} {w : World} (k m : Nat) (S : World → Prop) (hm : Tryd.prog.follows .mixedOrders = true) (hz : ops.size = m) (h : Wk ops Q S k m (Array.replicate m false) a w.drew) : (Code.region id ops true).wp Tryd.prog Q a w := by
  subst hz
  exact wp_region_any hm (Wk.any _ _ _ _ h)
end
end Go.Proofs.YtpcmhaflmpcicaaDoor
