/- Rows of parameters that a call owns. -/
import Derived.Test.YtpcmhaflmpcicaaDoorLnMem
namespace Go.Proofs.YtpcmhaflmpcicaaDoor
open Go.RowKit

theorem Strs.far {w w' : World} {row : Option Nat} {A : Option Addr} {n : Nat} {ls : List (List UInt8)} (h : Strs w w.heap.size A n ls) (hg : w.grownBy w' row) (hne : 0 < n → ∀ ad, A = some ad → some ad.block ≠ row) : Strs w' w'.heap.size A n ls :=
  ⟨h.1, fun hn => by
    obtain ⟨ad, e, hb, hc⟩ := h.2 hn
    exact ⟨ad, e, Nat.lt_of_lt_of_le hb hg.size, fun j u hu => (World.grownBy.cell_far hg (ad.add j) (by rw [add_block]; exact hb) (by rw [add_block]; exact hne hn ad e)).trans (hc j u hu)⟩⟩
/- what the cells xs say of the parameters ps -/
def Els (w : World) (P : Nat → Prop) (own : Option Nat) (xs : List Value) (ps : List Ln.Par) : Prop :=
  ∀ j p, ps[j]? = some p → xs[j * 2]? = some (.string ⟨p.1.toArray⟩) ∧ ∃ A' n' c', xs[j * 2 + 1]? = some (.slice A' n' c') ∧ Strs w w.heap.size A' n' p.2 ∧ (0 < n' → ∀ ad, A' = some ad → P ad.block ∧ own ≠ some ad.block)
def PRow (w : World) (B : Nat) (P : Nat → Prop) (e : TypeId) (A : Option Addr) (n c : Nat) (ps : List Ln.Par) : Prop :=
  ∃ xs, w.ownsRow B e 2 (.slice A n c) n xs ∧ ps.length = n ∧ Els w P (Value.slice A n c).ownBlock xs ps
theorem PRow.nil (w : World) (B : Nat) (P : Nat → Prop) (e : TypeId) : PRow w B P e none 0 0 [] := ⟨[], World.ownsRow_nil _ _ _ _, rfl, fun j p h => by simp at h⟩
theorem PRow.own {w : World} {B : Nat} {P : Nat → Prop} {e : TypeId} {A : Option Addr} {n c : Nat} {ps : List Ln.Par} (h : PRow w B P e A n c ps) : ∀ k, (Value.slice A n c).ownBlock = some k → B ≤ k ∧ k < w.heap.size := by
  obtain ⟨xs, h1, _⟩ := h
  exact fun k hk => h1.lt k hk
theorem PRow.kept {w w' : World} {row : Option Nat} {B : Nat} {P : Nat → Prop} {e : TypeId} {A : Option Addr} {n c : Nat} {ps : List Ln.Par} (h : PRow w B P e A n c ps) (hg : w.grownBy w' row) (hr : ∀ k, row = some k → k < B ∧ ∀ x, P x → x ≠ k) : PRow w' B P e A n c ps := by
  have ho := h.own
  obtain ⟨xs, h1, h2, h3⟩ := h
  refine ⟨xs, World.ownsRow.kept h1 hg ?_, h2, fun j p hp => ?_⟩
  · cases e1 : (Value.slice A n c).ownBlock with
    | none => exact .inl rfl
    | some k =>
      right
      intro e2
      have := (hr k e2.symm).1
      have := (ho k e1).1
      omega
  · obtain ⟨g1, A', n', c', g2, g3, g4⟩ := h3 j p hp
    exact ⟨g1, A', n', c', g2, g3.far hg (fun hn ad ha e2 => (hr _ e2.symm).2 _ (g4 hn ad ha).1 rfl), g4⟩
theorem PRow.gr {w w' : World} {B : Nat} {P : Nat → Prop} {e : TypeId} {A : Option Addr} {n c : Nat} {ps : List Ln.Par} (h : PRow w B P e A n c ps) (hg : Gr w w') : PRow w' B P e A n c ps :=
  h.kept (row := none) ⟨hg.below.os, hg.below.tape, hg.below.output, hg.below.size, fun i hi _ => hg.below.block i hi⟩ (fun k hk => by cases hk)
theorem add_zero_ (g j : Nat) : (⟨g, 0, none⟩ : Addr).add j = ⟨g, j, none⟩ := by unfold Addr.add; split <;> simp_all
theorem PRow.pars {w : World} {B : Nat} {P : Nat → Prop} {e : TypeId} {A : Option Addr} {n c : Nat} {ps : List Ln.Par} (h : PRow w B P e A n c ps) : Pars w w.heap.size A n ps := by
  obtain ⟨xs, h1, h2, h3⟩ := h
  refine ⟨h2, fun hn => ?_⟩
  obtain ⟨g, cap, hv, hb, hlt⟩ := h1.form hn
  injection hv with h4
  subst h4
  refine ⟨⟨g, 0, none⟩, rfl, hlt, fun j p hp => ?_⟩
  obtain ⟨g1, A', n', c', g2, g3, _⟩ := h3 j p hp
  have hc := World.ownsRow.cells (g := g) h1 rfl
  have e1 := hc _ _ g1
  have e2 := hc _ _ g2
  rw [add_zero_] at e1 e2
  rw [add_zero_]
  exact ⟨e1, A', n', c', e2, g3⟩
theorem prow_after {w W w' : World} {B : Nat} {P : Nat → Prop} {e : TypeId} {A : Option Addr} {n c : Nat} {ps : List Ln.Par} {xs : List Value} (hx : xs.length = n * 2) (hl : ps.length = n) (hE : Els w P (Value.slice A n c).ownBlock xs ps) (hlt : ∀ k, (Value.slice A n c).ownBlock = some k → k < w.heap.size)
    (p : Ln.Par) (Av : Option Addr) (nv cv : Nat) (hS : Strs w w.heap.size Av nv p.2) (hv : 0 < nv → ∀ ad, Av = some ad → P ad.block ∧ (Value.slice A n c).ownBlock ≠ some ad.block)
    (hgW : Gr w W) {g cap : Nat} (h1 : w'.ownsRow B e 2 (.slice (some ⟨g, 0, none⟩) (n + 1) cap) (n + 1) (xs ++ [.string ⟨p.1.toArray⟩, .slice Av nv cv]))
    (h2 : W.grownBy w' (Value.slice A n c).ownBlock) (h3 : (Value.slice A n c).ownBlock = some g ∨ g = w.heap.size + 1) : PRow w' B P e (some ⟨g, 0, none⟩) (n + 1) cap (ps ++ [p]) := by
  have key : ∀ (A' : Option Addr) (n' : Nat) (q : List (List UInt8)), Strs w w.heap.size A' n' q → (0 < n' → ∀ ad, A' = some ad → P ad.block ∧ (Value.slice A n c).ownBlock ≠ some ad.block) →
      Strs w' w'.heap.size A' n' q ∧ (0 < n' → ∀ ad, A' = some ad → P ad.block ∧ (Value.slice (some ⟨g, 0, none⟩) (n + 1) cap).ownBlock ≠ some ad.block) := by
    intro A' n' q hq hn
    have hqW : Strs W W.heap.size A' n' q := (hq.keep hgW.below).more hgW.lt
    refine ⟨hqW.far h2 (fun h0 ad ha e1 => (hn h0 ad ha).2 e1.symm), fun h0 ad ha => ⟨(hn h0 ad ha).1, ?_⟩⟩
    obtain ⟨ad', ha', hb', _⟩ := hq.2 h0
    rw [ha] at ha'
    injection ha' with ha'
    subst ha'
    rcases h3 with h3 | h3
    · have := (hn h0 ad ha).2
      rw [h3] at this
      exact this
    · intro e2
      have : g = ad.block := by simpa [Value.ownBlock] using e2
      omega
  refine ⟨_, h1, by rw [List.length_append, hl]; rfl, fun j q hq => ?_⟩
  rcases Nat.lt_or_ge j n with hj | hj
  · rw [List.getElem?_append_left (by omega)] at hq
    obtain ⟨g1, A', n', c', g2, g3, g4⟩ := hE j q hq
    obtain ⟨k1, k2⟩ := key A' n' q.2 g3 g4
    refine ⟨?_, A', n', c', ?_, k1, k2⟩
    · rw [List.getElem?_append_left (by omega)]; exact g1
    · rw [List.getElem?_append_left (by omega)]; exact g2
  · have hj2 : j = n := by
      have := (List.getElem?_eq_some_iff.1 hq).1
      rw [List.length_append, List.length_singleton] at this
      omega
    subst hj2
    rw [List.getElem?_append_right (by omega), hl, Nat.sub_self] at hq
    have : p = q := by simpa using hq
    subst this
    obtain ⟨k1, k2⟩ := key Av nv p.2 hS hv
    refine ⟨?_, Av, nv, cv, ?_, k1, k2⟩
    · rw [List.getElem?_append_right (by omega), hx, Nat.sub_self]; rfl
    · rw [List.getElem?_append_right (by omega), hx, Nat.add_sub_cancel_left]; rfl
theorem info_par : (Tryd.prog.info? 49).map (fun i => (i.zero, i.size, i.bytes)) = some (some (.agg #[.string ⟨#[]⟩, .slice none 0 0]), 2, 40) := by kernel_rfl
theorem info_parof : (Tryd.prog.info? 46).map (fun i => (i.zero, i.size, i.bytes)) = some (some (.agg #[.string ⟨#[]⟩, .slice none 0 0]), 2, 40) := by kernel_rfl
/- append(out, parameter), the parameter laid in a new block first -/
theorem ap_par {ops : Array Oper} {rest : List Oper} {o : Oper} {a : Act} {Q : Exit → Act → World → Prop} (w : World) (hgd : o.guard = none) (sl x : Operand)
    (ho : o.op = .call { callee := .builtin .append, args := #[sl, x], argTypes := #[30, 30] })
    (B : Nat) (P : Nat → Prop) (A : Option Addr) (n c : Nat) (ps : List Ln.Par) (hs : a.eval sl = .slice A n c) (hrow : PRow w B P 49 A n c ps) (p : Ln.Par) (Av : Option Addr) (nv cv : Nat) (hS : Strs w w.heap.size Av nv p.2) (hv : 0 < nv → ∀ ad, Av = some ad → P ad.block ∧ (Value.slice A n c).ownBlock ≠ some ad.block)
    (hx : a.eval x = .slice (some ⟨w.heap.size, 0, none⟩) 1 1) (hlen : n + 1 ≤ 1000000) (hB : B ≤ w.heap.size)
    (h : ∀ A' c' w', PRow w' B P 49 A' (n + 1) c' (ps ++ [p]) → Below B w w' → wpList Tryd.prog ops Q rest (a.put o.dst (.slice A' (n + 1) c')) w') :
    wpList Tryd.prog ops Q (o :: rest) a (w.alloc (.cells #[.string ⟨p.1.toArray⟩, .slice Av nv cv] 49)) := by
  obtain ⟨i0, hi, hz0, hz1, hz2⟩ := info_parts info_par
  have ho2 := hrow.own
  obtain ⟨xs, h1, h2, h3⟩ := hrow
  have hsz : (w.alloc (.cells #[.string ⟨p.1.toArray⟩, .slice Av nv cv] 49)).heap.size = w.heap.size + 1 := by simp
  have hown2 := World.ownsRow.alloc h1 (.cells #[.string ⟨p.1.toArray⟩, .slice Av nv cv] 49)
  refine wpList_append_lies _ hgd sl x 30 ho B 49 i0 _ 2 40 Tryd.underlying30 hi hz0 hz1 hz2 rfl (by omega) (.slice A n c) n xs hs hown2 ⟨w.heap.size, 0, none⟩ 1 1 [.string ⟨p.1.toArray⟩, .slice Av nv cv] hx rfl
    (World.news_of_block (cs := #[.string ⟨p.1.toArray⟩, .slice Av nv cv]) (t := 49) (fr := (0, 0)) (heap_alloc_new w _)) (by simp [Value.oneCell']) (by omega) (by unfold maxLen; omega) (by omega) (by omega) (w.heap.size + 1) (by simp) ?_
  intro g cap w' g1 g2 g3 _
  refine h _ _ w' (prow_after h1.1 h2 h3 (fun k hk => (ho2 k hk).2) p Av nv cv hS hv ((Gr.refl w).allocO _) g1 g2 g3) ?_
  exact ((Below.refl B w).alloc hB _).trans ((Below.refl B _).grown g2 (by omega) (fun k hk => (ho2 k hk).1))
/- the same inside a region that draws its order, over whichever of the two types of parameters -/
theorem st_par {ops : Array Oper} {o : Oper} {a : Act} {K : Act → World → Prop} {Q : Exit → Act → World → Prop} {E : Prop} (w : World) (hgd : o.guard = none) (sl x : Operand) (t e : TypeId)
    (ht : Tryd.prog.underlying t = some (.slice e)) (hinfo : (Tryd.prog.info? e).map (fun i => (i.zero, i.size, i.bytes)) = some (some (.agg #[.string ⟨#[]⟩, .slice none 0 0]), 2, 40))
    (ho : o.op = .call { callee := .builtin .append, args := #[sl, x], argTypes := #[t, t] })
    (B : Nat) (P : Nat → Prop) (A : Option Addr) (n c : Nat) (ps : List Ln.Par) (hs : a.eval sl = .slice A n c) (hrow : PRow w B P e A n c ps) (p : Ln.Par) (Av : Option Addr) (nv cv : Nat) (hS : Strs w w.heap.size Av nv p.2) (hv : 0 < nv → ∀ ad, Av = some ad → P ad.block ∧ (Value.slice A n c).ownBlock ≠ some ad.block)
    (hx : a.eval x = .slice (some ⟨w.heap.size, 0, none⟩) 1 1) (hlen : (n + 1) * 40 ≤ 140737488355328) (hB : B ≤ w.heap.size)
    (h : ∀ A' c' w', PRow w' B P e A' (n + 1) c' (ps ++ [p]) → Below B w w' → K (a.put o.dst (.slice A' (n + 1) c')) w') :
    if Region.wanted o (yielded ops a.tmps) = true then Oper.wp Tryd.prog o a (w.alloc (.cells #[.string ⟨p.1.toArray⟩, .slice Av nv cv] e)).drew K Q else E := by
  obtain ⟨i0, hi, hz0, hz1, hz2⟩ := info_parts hinfo
  have ho2 := hrow.own
  obtain ⟨xs, h1, h2, h3⟩ := hrow
  have hsz : (w.alloc (.cells #[.string ⟨p.1.toArray⟩, .slice Av nv cv] e)).drew.heap.size = w.heap.size + 1 := by simp
  have hown2 : (w.alloc (.cells #[.string ⟨p.1.toArray⟩, .slice Av nv cv] e)).drew.ownsRow B e 2 (.slice A n c) n xs := World.ownsRow.alloc h1 _
  refine step_append_lies _ hgd sl x t ho B e i0 _ 2 40 ht hi hz0 hz1 hz2 rfl (by omega) (.slice A n c) n xs hs hown2 ⟨w.heap.size, 0, none⟩ 1 1 [.string ⟨p.1.toArray⟩, .slice Av nv cv] hx rfl
    (World.news_of_block (cs := #[.string ⟨p.1.toArray⟩, .slice Av nv cv]) (t := e) (fr := (0, 0)) (heap_alloc_new w _)) (by simp [Value.oneCell']) (by omega) (by unfold maxLen; omega) (by omega) (by omega) (w.heap.size + 1) (by simp) ?_
  intro g cap w' g1 g2 g3 _
  refine h _ _ w' (prow_after h1.1 h2 h3 (fun k hk => (ho2 k hk).2) p Av nv cv hS hv ((Gr.refl w).allocO _).drew g1 g2 g3) ?_
  exact ((Below.refl B w).alloc hB _).drew.trans ((Below.refl B _).grown g2 (by omega) (fun k hk => (ho2 k hk).1))
/- the same where no draw stands behind the laying -/
theorem st_par0 {ops : Array Oper} {o : Oper} {a : Act} {K : Act → World → Prop} {Q : Exit → Act → World → Prop} {E : Prop} (w : World) (hgd : o.guard = none) (sl x : Operand) (t e : TypeId)
    (ht : Tryd.prog.underlying t = some (.slice e)) (hinfo : (Tryd.prog.info? e).map (fun i => (i.zero, i.size, i.bytes)) = some (some (.agg #[.string ⟨#[]⟩, .slice none 0 0]), 2, 40))
    (ho : o.op = .call { callee := .builtin .append, args := #[sl, x], argTypes := #[t, t] })
    (B : Nat) (P : Nat → Prop) (A : Option Addr) (n c : Nat) (ps : List Ln.Par) (hs : a.eval sl = .slice A n c) (hrow : PRow w B P e A n c ps) (p : Ln.Par) (Av : Option Addr) (nv cv : Nat) (hS : Strs w w.heap.size Av nv p.2) (hv : 0 < nv → ∀ ad, Av = some ad → P ad.block ∧ (Value.slice A n c).ownBlock ≠ some ad.block)
    (hx : a.eval x = .slice (some ⟨w.heap.size, 0, none⟩) 1 1) (hlen : (n + 1) * 40 ≤ 140737488355328) (hB : B ≤ w.heap.size)
    (h : ∀ A' c' w', PRow w' B P e A' (n + 1) c' (ps ++ [p]) → Below B w w' → K (a.put o.dst (.slice A' (n + 1) c')) w') :
    if Region.wanted o (yielded ops a.tmps) = true then Oper.wp Tryd.prog o a (w.alloc (.cells #[.string ⟨p.1.toArray⟩, .slice Av nv cv] e)) K Q else E := by
  obtain ⟨i0, hi, hz0, hz1, hz2⟩ := info_parts hinfo
  have ho2 := hrow.own
  obtain ⟨xs, h1, h2, h3⟩ := hrow
  have hsz : (w.alloc (.cells #[.string ⟨p.1.toArray⟩, .slice Av nv cv] e)).heap.size = w.heap.size + 1 := by simp
  have hown2 : (w.alloc (.cells #[.string ⟨p.1.toArray⟩, .slice Av nv cv] e)).ownsRow B e 2 (.slice A n c) n xs := World.ownsRow.alloc h1 _
  refine step_append_lies _ hgd sl x t ho B e i0 _ 2 40 ht hi hz0 hz1 hz2 rfl (by omega) (.slice A n c) n xs hs hown2 ⟨w.heap.size, 0, none⟩ 1 1 [.string ⟨p.1.toArray⟩, .slice Av nv cv] hx rfl
    (World.news_of_block (cs := #[.string ⟨p.1.toArray⟩, .slice Av nv cv]) (t := e) (fr := (0, 0)) (heap_alloc_new w _)) (by simp [Value.oneCell']) (by omega) (by unfold maxLen; omega) (by omega) (by omega) (w.heap.size + 1) (by simp) ?_
  intro g cap w' g1 g2 g3 _
  refine h _ _ w' (prow_after h1.1 h2 h3 (fun k hk => (ho2 k hk).2) p Av nv cv hS hv ((Gr.refl w).allocO _) g1 g2 g3) ?_
  exact ((Below.refl B w).alloc hB _).trans ((Below.refl B _).grown g2 (by omega) (fun k hk => (ho2 k hk).1))
end Go.Proofs.YtpcmhaflmpcicaaDoor
