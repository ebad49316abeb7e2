/- The texts RcNl, RcList, one behind the other. -/
import Derived.Test.YtmbmkldcedkbmaaGreatZE
import Derived.Deep.WholeRow
import Derived.Deep.RegionHeld3
import Derived.BigQuiet
import Derived.Test.YtmbmkldcedkbmaaGreatZShelf
import Derived.Deep.RegionWith
namespace Go.Proofs.YtmbmkldcedkbmaaGreat
open Go.RowKit

theorem gr_cell {w w' : World} (h : Gr w w') {p : Addr} {v : Value} (hc : w.cell? p = some v) : w'.cell? p = some v := (h.below.cell (World.block_lt_of_cell? _ _ hc)).trans hc
theorem at_lit {l : List Oper} {i : Nat} {o : Oper} (h : l[i]? = some o) : l.toArray[i]? = some o := by simpa using h
section
variable {ops : Array Oper} {Q : Exit → Act → World → Prop} {S : World → Prop} {k : Nat}
def Wk (ops : Array Oper) (Q : Exit → Act → World → Prop) (S : World → Prop) (k : Nat) : Nat → Array Bool → Act → World → Prop
  | 0, listed, a, w => Region.ready .any ops listed = [] ∧ Q .normal a w
  | m + 1, listed, a, w => (Region.ready .any ops listed = [] → Q .normal a w) ∧
      ∀ i ∈ Region.ready .any ops listed, wpOp Tryz.prog ops Q i (fun a' w' => (i ≠ k → S w') ∧ Wk ops Q S k m (listed.setIfInBounds i true) a' w') a w
theorem Wk.any : ∀ (m : Nat) (listed : Array Bool) (a : Act) (w : World), Wk ops Q S k m listed a w → wpAny Tryz.prog .any ops Q m listed a w
  | 0, _, _, _, h => h
  | m + 1, _, _, _, h => ⟨h.1, fun i hi => wpOp_mono (fun a' w' g => Wk.any m _ a' w' g.2) (h.2 i hi)⟩
theorem ready_unlisted {i : Nat} {listed : Array Bool} (h : i ∈ Region.ready .any ops listed) : listed.getD i false = false := by
  have h0 := (mem_ready.1 h).1
  rcases Nat.lt_or_ge i listed.size with h1 | h1
  · simp [h1] at h0 ⊢; exact h0
  · simp [Array.getElem?_eq_none h1] at h0
/- an operation that yields one value wherever S holds may be taken first; the last operation waits for it -/
theorem Wk.first {i : Nat} {oi ok : Oper} {v : Value} (hi : ops[i]? = some oi) (hk : ops[k]? = some ok) (hw : ok.after.any (fun e => Region.binds .any e && e.on == i) = true) (hs : Region.noSelect ops = true)
    (hQ : ∀ c a w, Q (.panic c) (a.put oi.dst v) w → Q (.panic c) a w) : ∀ (m : Nat) (listed : Array Bool) (a : Act) (w : World),
    (∀ j oj, ops[j]? = some oj → j ≠ i → listed.getD j true = false → (∀ e ∈ oj.after, Region.binds .any e = true → e.on ≠ i) → oi.apart ops oj = true) → i ∈ Region.ready .any ops listed → YieldsIf Tryz.prog ops S oi v a → S w →
    Wk ops Q S k m (listed.setIfInBounds i true) (a.put oi.dst v) w → Wk ops Q S k (m + 1) listed a w := by
  have hsel := Region.noSelect_spec hs
  intro m
  induction m with
  | zero =>
    intro listed a w _ hr hy hS H
    refine ⟨fun e => absurd (e ▸ hr) (by simp), fun j hj => ?_⟩
    by_cases e : j = i
    · subst e; exact hy.wpOp hi hS ⟨fun _ => hS, H⟩
    · have hj2 := ready_mono hj e
      rw [H.1] at hj2; cases hj2
  | succ m ih =>
    intro listed a w hf hr hy hS H
    refine ⟨fun e => absurd (e ▸ hr) (by simp), fun j hj => ?_⟩
    by_cases e : j = i
    · subst e; exact hy.wpOp hi hS ⟨fun _ => hS, H⟩
    · obtain ⟨hun, oj, hoj, hall⟩ := mem_ready.1 hj
      have hno : ∀ x ∈ oj.after, Region.binds .any x = true → x.on ≠ i := fun x hx hb ex => by
        have h1 := hall x hx hb
        rw [ex, ready_unlisted hr] at h1; cases h1
      have hjk : j ≠ k := fun ejk => by
        subst ejk
        obtain rfl : oj = ok := Option.some.inj (hoj.symm.trans hk)
        obtain ⟨x, hx, hb⟩ := Array.any_eq_true'.1 hw
        simp only [Bool.and_eq_true, beq_iff_eq] at hb
        exact hno x hx hb.1 hb.2
      have h2 := wpOp_putIf hoj (hf j oj hoj e hun hno) (fun cs b => hsel i oi cs b hi) (fun cs b => hsel j oj cs b hoj) hQ hy (H.2 j (ready_mono hj e))
      refine wpOp_mono (fun a' w' g => ⟨fun _ => g.2.1 hjk, ih _ a' w' (fun q oq hq hqi hqu hqn => ?_) (ready_mono hr (Ne.symm e)) g.1 (g.2.1 hjk) ?_⟩) h2
      · refine hf q oq hq hqi ?_ hqn
        by_cases ejq : j = q
        · rw [← ejq]; exact hun
        · rw [getD_set_ne true ejq] at hqu; exact hqu
      · rw [Array.setIfInBounds_comm _ _ e]; exact g.2.2
theorem Wk.take {i : Nat} {oi ok : Oper} {v : Value} {m : Nat} {listed : Array Bool} {a : Act} {w : World} (hi : ops[i]? = some oi) (hk : ops[k]? = some ok) (hw : ok.after.any (fun e => Region.binds .any e && e.on == i) = true)
    (hs : Region.noSelect ops = true) (hf : Region.free .any ops listed i = true) (hr : (Region.ready .any ops listed).contains i = true) (hg : oi.guard = none)
    (hQ : ∀ c a w, Q (.panic c) (a.put oi.dst v) w → Q (.panic c) a w) (hy : ∀ w, S w → (execOp a.eval oi).run Tryz.prog w = .ok (.value v) w) (hS : S w)
    (h : Wk ops Q S k m (listed.setIfInBounds i true) (a.put oi.dst v) w) : Wk ops Q S k (m + 1) listed a w :=
  Wk.first hi hk hw hs hQ m listed a w (Region.free_spec hi hf) (by simpa using hr) (.inl ⟨by simp [Region.wanted, hg], hy⟩) hS h
/- the one operation that may come up -/
theorem Wk.one {i : Nat} {oi : Oper} {m : Nat} {listed : Array Bool} {a : Act} {w : World} (hi : ops[i]? = some oi) (hr : Region.ready .any ops listed = [i])
    (h : ∀ K : Act → World → Prop, (∀ a' w', (i ≠ k → S w') → Wk ops Q S k m (listed.setIfInBounds i true) a' w' → K a' w') → if Region.wanted oi (yielded ops a.tmps) = true then Oper.wp Tryz.prog oi a w K Q else K (a.put oi.dst undef) w) : Wk ops Q S k (m + 1) listed a w := by
  refine ⟨fun e => (by rw [hr] at e; cases e), fun j hj => ?_⟩
  rw [hr] at hj
  obtain rfl := List.mem_singleton.1 hj
  exact wpOp_step hi (fun K hK => h K (fun a' w' h1 h2 => hK a' w' ⟨h1, h2⟩))
theorem Wk.done {m : Nat} {listed : Array Bool} {a : Act} {w : World} (hr : Region.ready .any ops listed = []) (h : Q .normal a w) : Wk ops Q S k m listed a w := by
  cases m with
  | zero => exact ⟨hr, h⟩
  | succ m => exact ⟨fun _ => h, by rw [hr]; simp⟩
theorem wp_region_last {id : Nat} {a : Act} {w : World} (k m : Nat) (S : World → Prop) (hm : Tryz.prog.follows .mixedOrders = true) (hz : ops.size = m) (h : Wk ops Q S k m (Array.replicate m false) a w.drew) : (Code.region id ops true).wp Tryz.prog Q a w := by
  subst hz
  exact wp_region_any hm (Wk.any _ _ _ _ h)
end
theorem info_nl : (Tryz.prog.info? 100).map (·.size) = some 32 := by kernel_rfl
theorem nl_one (b : Nat) : ((Rm.nlArr b).all (·.oneCell')) = true := by unfold Rm.nlArr; simp [Value.oneCell']
set_option maxRecDepth 100000 in
set_option maxHeartbeats 8000000 in
theorem numberLists_any (b : Nat) (w : World) :
    Calls Tryz.prog 63 #[.pointer (some ⟨b, 0, none⟩)] w fun e w' => e = .returned (.agg (Rm.nlArr b)) ∧ Gr w w' := by
  go_enter Tryz.func63, Tryz.ntmps63
  go_wp2
  refine wp_region_last 33 34 (fun _ : World => True) (by kernel_rfl) rfl ?_
  refine Wk.take (i := 0) (v := ?_) (at_lit rfl) (at_lit rfl) (by kernel_rfl) (by kernel_rfl) (by kernel_rfl) (by kernel_rfl) rfl (fun _ _ _ h => h) ?_ trivial ?_
  rotate_left 1
  · intro w' hSw
    clear hSw
    go_simp
    first | done | rfl
  simp only [Act.put, List.setIfInBounds_toArray, List.set_cons_zero, List.set_cons_succ]
  refine Wk.take (i := 1) (v := ?_) (at_lit rfl) (at_lit rfl) (by kernel_rfl) (by kernel_rfl) (by kernel_rfl) (by kernel_rfl) rfl (fun _ _ _ h => h) ?_ trivial ?_
  rotate_left 1
  · intro w' hSw
    clear hSw
    go_simp
    first | done | rfl
  simp only [Act.put, List.setIfInBounds_toArray, List.set_cons_zero, List.set_cons_succ]
  refine Wk.take (i := 2) (v := ?_) (at_lit rfl) (at_lit rfl) (by kernel_rfl) (by kernel_rfl) (by kernel_rfl) (by kernel_rfl) rfl (fun _ _ _ h => h) ?_ trivial ?_
  rotate_left 1
  · intro w' hSw
    clear hSw
    go_simp
    first | done | rfl
  simp only [Act.put, List.setIfInBounds_toArray, List.set_cons_zero, List.set_cons_succ]
  refine Wk.take (i := 3) (v := ?_) (at_lit rfl) (at_lit rfl) (by kernel_rfl) (by kernel_rfl) (by kernel_rfl) (by kernel_rfl) rfl (fun _ _ _ h => h) ?_ trivial ?_
  rotate_left 1
  · intro w' hSw
    clear hSw
    go_simp
    first | done | rfl
  simp only [Act.put, List.setIfInBounds_toArray, List.set_cons_zero, List.set_cons_succ]
  refine Wk.take (i := 4) (v := ?_) (at_lit rfl) (at_lit rfl) (by kernel_rfl) (by kernel_rfl) (by kernel_rfl) (by kernel_rfl) rfl (fun _ _ _ h => h) ?_ trivial ?_
  rotate_left 1
  · intro w' hSw
    clear hSw
    go_simp
    first | done | rfl
  simp only [Act.put, List.setIfInBounds_toArray, List.set_cons_zero, List.set_cons_succ]
  refine Wk.take (i := 5) (v := ?_) (at_lit rfl) (at_lit rfl) (by kernel_rfl) (by kernel_rfl) (by kernel_rfl) (by kernel_rfl) rfl (fun _ _ _ h => h) ?_ trivial ?_
  rotate_left 1
  · intro w' hSw
    clear hSw
    go_simp
    first | done | rfl
  simp only [Act.put, List.setIfInBounds_toArray, List.set_cons_zero, List.set_cons_succ]
  refine Wk.take (i := 6) (v := ?_) (at_lit rfl) (at_lit rfl) (by kernel_rfl) (by kernel_rfl) (by kernel_rfl) (by kernel_rfl) rfl (fun _ _ _ h => h) ?_ trivial ?_
  rotate_left 1
  · intro w' hSw
    clear hSw
    go_simp
    first | done | rfl
  simp only [Act.put, List.setIfInBounds_toArray, List.set_cons_zero, List.set_cons_succ]
  refine Wk.take (i := 7) (v := ?_) (at_lit rfl) (at_lit rfl) (by kernel_rfl) (by kernel_rfl) (by kernel_rfl) (by kernel_rfl) rfl (fun _ _ _ h => h) ?_ trivial ?_
  rotate_left 1
  · intro w' hSw
    clear hSw
    go_simp
    first | done | rfl
  simp only [Act.put, List.setIfInBounds_toArray, List.set_cons_zero, List.set_cons_succ]
  refine Wk.take (i := 8) (v := ?_) (at_lit rfl) (at_lit rfl) (by kernel_rfl) (by kernel_rfl) (by kernel_rfl) (by kernel_rfl) rfl (fun _ _ _ h => h) ?_ trivial ?_
  rotate_left 1
  · intro w' hSw
    clear hSw
    go_simp
    first | done | rfl
  simp only [Act.put, List.setIfInBounds_toArray, List.set_cons_zero, List.set_cons_succ]
  refine Wk.take (i := 9) (v := ?_) (at_lit rfl) (at_lit rfl) (by kernel_rfl) (by kernel_rfl) (by kernel_rfl) (by kernel_rfl) rfl (fun _ _ _ h => h) ?_ trivial ?_
  rotate_left 1
  · intro w' hSw
    clear hSw
    go_simp
    first | done | rfl
  simp only [Act.put, List.setIfInBounds_toArray, List.set_cons_zero, List.set_cons_succ]
  refine Wk.take (i := 10) (v := ?_) (at_lit rfl) (at_lit rfl) (by kernel_rfl) (by kernel_rfl) (by kernel_rfl) (by kernel_rfl) rfl (fun _ _ _ h => h) ?_ trivial ?_
  rotate_left 1
  · intro w' hSw
    clear hSw
    go_simp
    first | done | rfl
  simp only [Act.put, List.setIfInBounds_toArray, List.set_cons_zero, List.set_cons_succ]
  refine Wk.take (i := 11) (v := ?_) (at_lit rfl) (at_lit rfl) (by kernel_rfl) (by kernel_rfl) (by kernel_rfl) (by kernel_rfl) rfl (fun _ _ _ h => h) ?_ trivial ?_
  rotate_left 1
  · intro w' hSw
    clear hSw
    go_simp
    first | done | rfl
  simp only [Act.put, List.setIfInBounds_toArray, List.set_cons_zero, List.set_cons_succ]
  refine Wk.take (i := 12) (v := ?_) (at_lit rfl) (at_lit rfl) (by kernel_rfl) (by kernel_rfl) (by kernel_rfl) (by kernel_rfl) rfl (fun _ _ _ h => h) ?_ trivial ?_
  rotate_left 1
  · intro w' hSw
    clear hSw
    go_simp
    first | done | rfl
  simp only [Act.put, List.setIfInBounds_toArray, List.set_cons_zero, List.set_cons_succ]
  refine Wk.take (i := 13) (v := ?_) (at_lit rfl) (at_lit rfl) (by kernel_rfl) (by kernel_rfl) (by kernel_rfl) (by kernel_rfl) rfl (fun _ _ _ h => h) ?_ trivial ?_
  rotate_left 1
  · intro w' hSw
    clear hSw
    go_simp
    first | done | rfl
  simp only [Act.put, List.setIfInBounds_toArray, List.set_cons_zero, List.set_cons_succ]
  refine Wk.take (i := 14) (v := ?_) (at_lit rfl) (at_lit rfl) (by kernel_rfl) (by kernel_rfl) (by kernel_rfl) (by kernel_rfl) rfl (fun _ _ _ h => h) ?_ trivial ?_
  rotate_left 1
  · intro w' hSw
    clear hSw
    go_simp
    first | done | rfl
  simp only [Act.put, List.setIfInBounds_toArray, List.set_cons_zero, List.set_cons_succ]
  refine Wk.take (i := 15) (v := ?_) (at_lit rfl) (at_lit rfl) (by kernel_rfl) (by kernel_rfl) (by kernel_rfl) (by kernel_rfl) rfl (fun _ _ _ h => h) ?_ trivial ?_
  rotate_left 1
  · intro w' hSw
    clear hSw
    go_simp
    first | done | rfl
  simp only [Act.put, List.setIfInBounds_toArray, List.set_cons_zero, List.set_cons_succ]
  refine Wk.take (i := 16) (v := ?_) (at_lit rfl) (at_lit rfl) (by kernel_rfl) (by kernel_rfl) (by kernel_rfl) (by kernel_rfl) rfl (fun _ _ _ h => h) ?_ trivial ?_
  rotate_left 1
  · intro w' hSw
    clear hSw
    go_simp
    first | done | rfl
  simp only [Act.put, List.setIfInBounds_toArray, List.set_cons_zero, List.set_cons_succ]
  refine Wk.take (i := 17) (v := ?_) (at_lit rfl) (at_lit rfl) (by kernel_rfl) (by kernel_rfl) (by kernel_rfl) (by kernel_rfl) rfl (fun _ _ _ h => h) ?_ trivial ?_
  rotate_left 1
  · intro w' hSw
    clear hSw
    go_simp
    first | done | rfl
  simp only [Act.put, List.setIfInBounds_toArray, List.set_cons_zero, List.set_cons_succ]
  refine Wk.take (i := 18) (v := ?_) (at_lit rfl) (at_lit rfl) (by kernel_rfl) (by kernel_rfl) (by kernel_rfl) (by kernel_rfl) rfl (fun _ _ _ h => h) ?_ trivial ?_
  rotate_left 1
  · intro w' hSw
    clear hSw
    go_simp
    first | done | rfl
  simp only [Act.put, List.setIfInBounds_toArray, List.set_cons_zero, List.set_cons_succ]
  refine Wk.take (i := 19) (v := ?_) (at_lit rfl) (at_lit rfl) (by kernel_rfl) (by kernel_rfl) (by kernel_rfl) (by kernel_rfl) rfl (fun _ _ _ h => h) ?_ trivial ?_
  rotate_left 1
  · intro w' hSw
    clear hSw
    go_simp
    first | done | rfl
  simp only [Act.put, List.setIfInBounds_toArray, List.set_cons_zero, List.set_cons_succ]
  refine Wk.take (i := 20) (v := ?_) (at_lit rfl) (at_lit rfl) (by kernel_rfl) (by kernel_rfl) (by kernel_rfl) (by kernel_rfl) rfl (fun _ _ _ h => h) ?_ trivial ?_
  rotate_left 1
  · intro w' hSw
    clear hSw
    go_simp
    first | done | rfl
  simp only [Act.put, List.setIfInBounds_toArray, List.set_cons_zero, List.set_cons_succ]
  refine Wk.take (i := 21) (v := ?_) (at_lit rfl) (at_lit rfl) (by kernel_rfl) (by kernel_rfl) (by kernel_rfl) (by kernel_rfl) rfl (fun _ _ _ h => h) ?_ trivial ?_
  rotate_left 1
  · intro w' hSw
    clear hSw
    go_simp
    first | done | rfl
  simp only [Act.put, List.setIfInBounds_toArray, List.set_cons_zero, List.set_cons_succ]
  refine Wk.take (i := 22) (v := ?_) (at_lit rfl) (at_lit rfl) (by kernel_rfl) (by kernel_rfl) (by kernel_rfl) (by kernel_rfl) rfl (fun _ _ _ h => h) ?_ trivial ?_
  rotate_left 1
  · intro w' hSw
    clear hSw
    go_simp
    first | done | rfl
  simp only [Act.put, List.setIfInBounds_toArray, List.set_cons_zero, List.set_cons_succ]
  refine Wk.take (i := 23) (v := ?_) (at_lit rfl) (at_lit rfl) (by kernel_rfl) (by kernel_rfl) (by kernel_rfl) (by kernel_rfl) rfl (fun _ _ _ h => h) ?_ trivial ?_
  rotate_left 1
  · intro w' hSw
    clear hSw
    go_simp
    first | done | rfl
  simp only [Act.put, List.setIfInBounds_toArray, List.set_cons_zero, List.set_cons_succ]
  refine Wk.take (i := 24) (v := ?_) (at_lit rfl) (at_lit rfl) (by kernel_rfl) (by kernel_rfl) (by kernel_rfl) (by kernel_rfl) rfl (fun _ _ _ h => h) ?_ trivial ?_
  rotate_left 1
  · intro w' hSw
    clear hSw
    go_simp
    first | done | rfl
  simp only [Act.put, List.setIfInBounds_toArray, List.set_cons_zero, List.set_cons_succ]
  refine Wk.take (i := 25) (v := ?_) (at_lit rfl) (at_lit rfl) (by kernel_rfl) (by kernel_rfl) (by kernel_rfl) (by kernel_rfl) rfl (fun _ _ _ h => h) ?_ trivial ?_
  rotate_left 1
  · intro w' hSw
    clear hSw
    go_simp
    first | done | rfl
  simp only [Act.put, List.setIfInBounds_toArray, List.set_cons_zero, List.set_cons_succ]
  refine Wk.take (i := 26) (v := ?_) (at_lit rfl) (at_lit rfl) (by kernel_rfl) (by kernel_rfl) (by kernel_rfl) (by kernel_rfl) rfl (fun _ _ _ h => h) ?_ trivial ?_
  rotate_left 1
  · intro w' hSw
    clear hSw
    go_simp
    first | done | rfl
  simp only [Act.put, List.setIfInBounds_toArray, List.set_cons_zero, List.set_cons_succ]
  refine Wk.take (i := 27) (v := ?_) (at_lit rfl) (at_lit rfl) (by kernel_rfl) (by kernel_rfl) (by kernel_rfl) (by kernel_rfl) rfl (fun _ _ _ h => h) ?_ trivial ?_
  rotate_left 1
  · intro w' hSw
    clear hSw
    go_simp
    first | done | rfl
  simp only [Act.put, List.setIfInBounds_toArray, List.set_cons_zero, List.set_cons_succ]
  refine Wk.take (i := 28) (v := ?_) (at_lit rfl) (at_lit rfl) (by kernel_rfl) (by kernel_rfl) (by kernel_rfl) (by kernel_rfl) rfl (fun _ _ _ h => h) ?_ trivial ?_
  rotate_left 1
  · intro w' hSw
    clear hSw
    go_simp
    first | done | rfl
  simp only [Act.put, List.setIfInBounds_toArray, List.set_cons_zero, List.set_cons_succ]
  refine Wk.take (i := 29) (v := ?_) (at_lit rfl) (at_lit rfl) (by kernel_rfl) (by kernel_rfl) (by kernel_rfl) (by kernel_rfl) rfl (fun _ _ _ h => h) ?_ trivial ?_
  rotate_left 1
  · intro w' hSw
    clear hSw
    go_simp
    first | done | rfl
  simp only [Act.put, List.setIfInBounds_toArray, List.set_cons_zero, List.set_cons_succ]
  refine Wk.take (i := 30) (v := ?_) (at_lit rfl) (at_lit rfl) (by kernel_rfl) (by kernel_rfl) (by kernel_rfl) (by kernel_rfl) rfl (fun _ _ _ h => h) ?_ trivial ?_
  rotate_left 1
  · intro w' hSw
    clear hSw
    go_simp
    first | done | rfl
  simp only [Act.put, List.setIfInBounds_toArray, List.set_cons_zero, List.set_cons_succ]
  refine Wk.take (i := 31) (v := ?_) (at_lit rfl) (at_lit rfl) (by kernel_rfl) (by kernel_rfl) (by kernel_rfl) (by kernel_rfl) rfl (fun _ _ _ h => h) ?_ trivial ?_
  rotate_left 1
  · intro w' hSw
    clear hSw
    go_simp
    first | done | rfl
  simp only [Act.put, List.setIfInBounds_toArray, List.set_cons_zero, List.set_cons_succ]
  refine Wk.take (i := 32) (v := ?_) (at_lit rfl) (at_lit rfl) (by kernel_rfl) (by kernel_rfl) (by kernel_rfl) (by kernel_rfl) rfl (fun _ _ _ h => h) ?_ trivial ?_
  rotate_left 1
  · intro w' hSw
    clear hSw
    go_simp
    first | done | rfl
  simp only [Act.put, List.setIfInBounds_toArray, List.set_cons_zero, List.set_cons_succ]
  refine Wk.one (i := 33) (at_lit rfl) (by kernel_rfl) (fun K hK => ?_)
  rw [if_pos (by rfl)]
  refine wp_store_row 100 (.tmp 2) (.tmp 35) rfl w.heap.size (Rm.nlArr b) rfl rfl 100 _ (heap_alloc_new w _) info_nl rfl (nl_one b) ?_
  refine hK _ _ (fun h => absurd rfl h) ?_
  refine Wk.done (by kernel_rfl) ?_
  have hw : ∀ Z, (w.alloc (.cells Z 100)).drew.setRow w.heap.size (Rm.nlArr b) = (w.alloc (.cells (Rm.nlArr b) 100)).drew := fun Z => congrArg World.drew (World.setRow_alloc_new w Z (Rm.nlArr b) 100)
  rw [hw]
  clear hw
  go_wp2
  refine bodyPost_ret (results_cell_row rfl _ _ w.heap.size 100 (Rm.nlArr b) (0, 0) _ rfl (heap_alloc_new w _) Tryz.underlying100 rfl info_nl) rfl ?_
  exact ⟨rfl, ((Gr.refl w).allocO _).drew⟩
end Go.Proofs.YtmbmkldcedkbmaaGreat
namespace Go.Proofs.YtmbmkldcedkbmaaGreat
open Go.RowKit

theorem cmp_any (x y : Int) (w : World) : Calls Tryz.prog 97 #[.int .i64 x, .int .i64 y] w fun e w' => e = .returned (.int .i64 (Lib.compareInt x y)) ∧ w = w' :=
  (Tryz.cmp_Compare_int x y w).mono fun _ _ ⟨h1, h2⟩ => ⟨h1, h2.symm⟩
namespace Rm
theorem cmp_neg {x y : Int} : Lib.compareInt x y < 0 ↔ x < y := by unfold Lib.compareInt; split <;> (try split) <;> omega
theorem cmp_zero {x y : Int} : Lib.compareInt x y = 0 ↔ x = y := by unfold Lib.compareInt; split <;> (try split) <;> omega
def cmpW (a b : Int × Int) : Int := if Lib.compareInt a.2 b.2 = 0 then Lib.compareInt a.1 b.1 else Lib.compareInt a.2 b.2
theorem cmpW_neg {a b : Int × Int} : cmpW a b < 0 ↔ bef a b = true := by
  rw [bef_iff]
  unfold cmpW
  by_cases h : Lib.compareInt a.2 b.2 = 0
  · rw [if_pos h, cmp_neg]; have := cmp_zero.1 h; omega
  · rw [if_neg h, cmp_neg]; have : ¬ a.2 = b.2 := fun e => h (cmp_zero.2 e); omega
theorem cmpW_zero {a b : Int × Int} : cmpW a b = 0 ↔ a = b := by
  unfold cmpW
  by_cases h : Lib.compareInt a.2 b.2 = 0
  · rw [if_pos h, cmp_zero]; have := cmp_zero.1 h
    exact ⟨fun e => Prod.ext e this, fun e => by rw [e]⟩
  · rw [if_neg h]
    exact ⟨fun e => absurd e h, fun e => by rw [e] at h; exact absurd (cmp_zero.2 rfl) h⟩
end Rm
set_option maxHeartbeats 1000000 in
theorem cmpOr_any (b : Nat) (x y : Int) (w : World) (c0 : w.cell? ⟨b, 0, none⟩ = some (.int .i64 x)) (c1 : w.cell? ⟨b, 1, none⟩ = some (.int .i64 y)) :
    Calls Tryz.prog 98 #[.slice (some ⟨b, 0, none⟩) 2 2] w fun e w' => e = .returned (.int .i64 (if x = 0 then y else x)) ∧ w = w' := by
  have a0 : (⟨b, 0, none⟩ : Addr).add 0 = ⟨b, 0, none⟩ := rfl
  have a1 : (⟨b, 0, none⟩ : Addr).add 1 = ⟨b, 1, none⟩ := rfl
  obtain ⟨N, hN⟩ : ∃ N, (if x = 0 then y else x) = N := ⟨_, rfl⟩
  rw [hN]
  have HN := Lib.hid hN
  clear hN
  go_enter Tryz.func98, Tryz.ntmps98
  go_wp2
  go_loopg [8] 2 (fun g v wx => ∃ k : Nat, v = .int .i64 (k : Int) ∧ k + g = 2 ∧ w = wx ∧ Hid (1 ≤ k → x = 0) ∧ Hid (2 ≤ k → y = 0))
  case atStart => exact ⟨0, rfl, rfl, rfl, Lib.hid (by omega), Lib.hid (by omega)⟩
  case round =>
    obtain ⟨k, rfl, hkg, rfl, H1, H2⟩ := hrel
    rcases (show k = 0 ∨ k = 1 ∨ k = 2 by omega) with rfl | rfl | rfl
    · by_cases hx : x = 0
      · subst hx
        go_wp2
        go_roundg 1
        case measure => omega
        case rel => exact ⟨1, by go_num, by omega, rfl, Lib.hid (by first | exact fun _ => rfl | simp), Lib.hid (by omega)⟩
      · have HE : Hid (N = x) := Lib.hid (by rw [← HN.out, if_neg hx])
        go_wp2
        go_ret
        exact ⟨ret_int HE.out.symm, rfl⟩
    · by_cases hy : y = 0
      · subst hy
        have HE : Hid (x = 0) := Lib.hid (H1.out (by omega))
        go_wp2
        go_roundg 0
        case measure => omega
        case rel => exact ⟨2, by go_num, by omega, rfl, Lib.hid (fun _ => HE.out), Lib.hid (by first | exact fun _ => rfl | simp)⟩
      · have HE : Hid (N = y) := Lib.hid (by rw [← HN.out, if_pos (H1.out (by omega))])
        go_wp2
        go_ret
        exact ⟨ret_int HE.out.symm, rfl⟩
    · have HE : Hid (N = 0) := Lib.hid (by rw [← HN.out, if_pos (H1.out (by omega)), H2.out (by omega)])
      go_wp2
      go_ret
      exact ⟨ret_int HE.out.symm, rfl⟩
set_option maxRecDepth 100000 in
set_option maxHeartbeats 4000000 in
theorem cmpw_any (a b : Int × Int) (w : World) :
    Calls Tryz.prog 67 #[.agg #[.int .i64 a.1, .int .i64 a.2], .agg #[.int .i64 b.1, .int .i64 b.2]] w fun e w' => e = .returned (.int .i64 (Rm.cmpW a b)) ∧ Gr w w' := by
  obtain ⟨n1, d1⟩ := a
  obtain ⟨n2, d2⟩ := b
  obtain ⟨N, hN⟩ : ∃ N, Rm.cmpW (n1, d1) (n2, d2) = N := ⟨_, rfl⟩
  rw [hN]
  have HN := Lib.hid (show (if Lib.compareInt d1 d2 = 0 then Lib.compareInt n1 n2 else Lib.compareInt d1 d2) = N from hN)
  clear hN
  obtain ⟨x, hx⟩ : ∃ x, Lib.compareInt d1 d2 = x := ⟨_, rfl⟩
  obtain ⟨y, hy⟩ : ∃ y, Lib.compareInt n1 n2 = y := ⟨_, rfl⟩
  rw [hx, hy] at HN
  have HX := Lib.hid hx
  have HY := Lib.hid hy
  clear hx hy
  have cO := fun b w c0 c1 => cmpOr_any b x y w c0 c1
  rw [HN.out] at cO
  have hg : Gr w ((w.alloc (.cells #[.int .i64 n1, .int .i64 d1] 64)).alloc (.cells #[.int .i64 n2, .int .i64 d2] 64)) := ((Gr.refl w).allocO _).allocO _
  go_enter Tryz.func67, Tryz.ntmps67
  go_wp2
  have hbx : ∀ W, W = (w.alloc (.cells #[.int .i64 n1, .int .i64 d1] 64)).alloc (.cells #[.int .i64 n2, .int .i64 d2] 64) → W.cell? ⟨w.heap.size, 0, none⟩ = some (.int .i64 n1) ∧ W.cell? ⟨w.heap.size, 1, none⟩ = some (.int .i64 d1) ∧ W.cell? ⟨w.heap.size + 1, 0, none⟩ = some (.int .i64 n2) ∧ W.cell? ⟨w.heap.size + 1, 1, none⟩ = some (.int .i64 d2) := by
    rintro W rfl
    refine ⟨by simp, by simp, by simp, by simp⟩
  obtain ⟨W, hW⟩ : ∃ W, (w.alloc (.cells #[.int .i64 n1, .int .i64 d1] 64)).alloc (.cells #[.int .i64 n2, .int .i64 d2] 64) = W := ⟨_, rfl⟩
  obtain ⟨c0, c1, c2, c3⟩ := hbx W hW.symm
  rw [hW] at hg ⊢
  clear hW hbx

  go_region_held3 (fun w' => w'.cell? ⟨w.heap.size, 0, none⟩ = some (.int .i64 n1) ∧ w'.cell? ⟨w.heap.size, 1, none⟩ = some (.int .i64 d1) ∧ w'.cell? ⟨w.heap.size + 1, 0, none⟩ = some (.int .i64 n2) ∧ w'.cell? ⟨w.heap.size + 1, 1, none⟩ = some (.int .i64 d2))
    (first | exact ⟨c0, c1, c2, c3⟩ | exact ⟨gr_cell (((Gr.refl W).drew).allocO _) c0, gr_cell (((Gr.refl W).drew).allocO _) c1, gr_cell (((Gr.refl W).drew).allocO _) c2, gr_cell (((Gr.refl W).drew).allocO _) c3⟩)
    (first | (go_at_call 97; refine (cmp_any _ _ _).mono ?_; rintro e w' ⟨rfl, rfl⟩; first | rw [HX.out] | rw [HY.out]) | (go_at_call 98; refine (cO _ _ (by simp) (by simp)).mono ?_; rintro e w' ⟨rfl, rfl⟩))
  all_goals go_wp2
  all_goals go_ret
  all_goals exact ⟨rfl, (hg.drew.allocO _)⟩
end Go.Proofs.YtmbmkldcedkbmaaGreat
