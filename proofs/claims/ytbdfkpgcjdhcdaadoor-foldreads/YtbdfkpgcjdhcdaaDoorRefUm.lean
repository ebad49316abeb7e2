/- For the reference's Unfold: two rows of different elements side by side; plain facts. -/
import Derived.Test.YtbdfkpgcjdhcdaaDoorFdUnf
import Derived.Test.YtbdfkpgcjdhcdaaDoorRefFold
namespace Go.Proofs.YtbdfkpgcjdhcdaaDoor
open Go.RowKit

namespace Fd
theorem al_none (t : List UInt8) (h : ∀ (i : Nat) (b : UInt8), t[i]? = some b → b ≠ 10) : al t = [] :=
  (bl_out t (fun hm => by
    obtain ⟨i, hi, he⟩ := List.getElem_of_mem hm
    exact h i _ (List.getElem?_eq_getElem hi) he)).2
theorem bl_at (t : List UInt8) (m : Nat) (h : ∀ (i : Nat) (b : UInt8), i < m → t[i]? = some b → b ≠ 10) (hm : t[m]? = some 10) : bl t = t.take m ∧ al t = 10 :: t.drop (m + 1) := by
  have hl : m < t.length := (List.getElem?_eq_some_iff.1 hm).1
  have e : t = t.take m ++ 10 :: t.drop (m + 1) := by
    conv => lhs; rw [← List.take_append_drop m t]
    congr 1
    rw [List.drop_eq_getElem_cons hl]
    congr 1
    have := List.getElem?_eq_getElem hl
    rw [hm] at this
    exact (Option.some.inj this).symm
  have hn : 10 ∉ t.take m := by
    intro hx
    obtain ⟨i, hi, he⟩ := List.getElem_of_mem hx
    rw [List.length_take] at hi
    rw [List.getElem_take] at he
    exact h i _ (by omega) (List.getElem?_eq_getElem (by omega)) he
  have := bl_piece (t.take m) (t.drop (m + 1)) hn
  rw [← e] at this
  exact this
theorem tc_cr (p : List UInt8) (hl : p[p.length - 1]? = some 13) : tc p = p.take (p.length - 1) := by
  unfold tc
  rw [if_pos (by rw [List.getLast?_eq_getElem?]; exact hl), List.dropLast_eq_take]
theorem tc_no (p : List UInt8) (h : ∀ b, p[p.length - 1]? = some b → b ≠ 13) : tc p = p := by
  unfold tc
  rw [if_neg]
  intro e
  rw [List.getLast?_eq_getElem?] at e
  exact h 13 e rfl
def total (acc : List (List UInt8 × Nat)) : Nat := (acc.map Prod.fst).flatten.length
theorem total_append (a b : List (List UInt8 × Nat)) : total (a ++ b) = total a + total b := by simp [total]
theorem gst_total (acc : List (List UInt8 × Nat)) (n : Nat) (p : List UInt8) : total (gst acc n p) ≤ total acc + p.length := by
  unfold gst
  split
  · rcases List.eq_nil_or_concat acc with rfl | ⟨a, x, rfl⟩
    · simp [addLast, total]
    · rw [List.concat_eq_append, addLast_snoc, total_append, total_append]
      simp only [total, List.map_cons, List.map_nil, List.flatten_cons, List.flatten_nil, List.append_nil, List.length_append, List.length_tail]
      omega
  · rw [total_append]
    simp [total]
theorem gs_total (ps : List (List UInt8)) : ∀ (acc : List (List UInt8 × Nat)) (n : Nat), total (gs acc n ps) ≤ total acc + ps.flatten.length := by
  induction ps with
  | nil => intro acc n; simp [gs]
  | cons p ps ih =>
    intro acc n
    have h1 := ih (gst acc n p) (n + 1)
    have h2 := gst_total acc n p
    simp only [gs, List.flatten_cons, List.length_append]
    omega
theorem gst_count (acc : List (List UInt8 × Nat)) (n : Nat) (p : List UInt8) : (gst acc n p).length ≤ acc.length + 1 := by
  unfold gst
  split
  · rcases List.eq_nil_or_concat acc with rfl | ⟨a, x, rfl⟩
    · simp [addLast]
    · rw [List.concat_eq_append, addLast_snoc]; simp
  · simp
theorem gs_count (ps : List (List UInt8)) : ∀ (acc : List (List UInt8 × Nat)) (n : Nat), (gs acc n ps).length ≤ acc.length + ps.length := by
  induction ps with
  | nil => intro acc n; simp [gs]
  | cons p ps ih =>
    intro acc n
    have h1 := ih (gst acc n p) (n + 1)
    have h2 := gst_count acc n p
    simp only [gs, List.length_cons]
    omega
theorem total_at (acc : List (List UInt8 × Nat)) (k : Nat) (h : k < acc.length) : acc[k].1.length ≤ total acc := by
  have e : acc = acc.take k ++ ([acc[k]] ++ acc.drop (k + 1)) := by
    conv => lhs; rw [← List.take_append_drop k acc, List.drop_eq_getElem_cons h]
    rfl
  have e2 := congrArg total e
  rw [total_append, total_append] at e2
  have e3 : total [acc[k]] = acc[k].1.length := by simp [total]
  omega
theorem chk_at (acc : List (List UInt8 × Nat)) (k : Nat) (h : k < acc.length) (h0 : chk (acc.take k) = none) (x : Nat × Int) (hx : chk [acc[k]] = some x) : chk acc = some x := by
  have e : acc = acc.take k ++ ([acc[k]] ++ acc.drop (k + 1)) := by
    conv => lhs; rw [← List.take_append_drop k acc, List.drop_eq_getElem_cons h]
    rfl
  rw [e, chk_append _ _ h0]
  exact chk_err _ _ x hx
theorem chk_more (acc : List (List UInt8 × Nat)) (k : Nat) (h : k < acc.length) (h0 : chk (acc.take k) = none) (hx : chk [acc[k]] = none) : chk (acc.take (k + 1)) = none := by
  rw [List.take_succ_eq_append_getElem h, chk_append _ _ h0]; exact hx
theorem contains_succ (l : List UInt8) (k : Nat) (h : k < l.length) (c : UInt8) : (l.take (k + 1)).contains c = ((l.take k).contains c || (l[k] == c)) := by
  rw [List.take_succ_eq_append_getElem h, List.contains_append]
  congr 1
  rw [Bool.eq_iff_iff]
  simp only [List.contains_eq_mem, List.mem_singleton, decide_eq_true_eq, beq_iff_eq]
  exact ⟨fun e => e.symm, fun e => e.symm⟩
end Fd

theorem cat_data (a b : ByteArray) : (a ++ b).data.toList = a.data.toList ++ b.data.toList := by rw [ByteArray.data_append, Array.toList_append]
theorem own_other {w w' : World} {B : Nat} {e e2 : TypeId} {v : Value} {n : Nat} {xs : List Value} {A2 : Option Addr} {n2 c2 : Nat} {ys : List Value} (h : w.ownsRow B e 1 v n xs) (h2 : OwnV w B e2 A2 n2 c2 ys) (hne : e2 ≠ e)
    (hg : w.grownBy w' v.ownBlock) : OwnV w' B e2 A2 n2 c2 ys := by
  refine World.ownsRow.kept h2 hg ?_
  rcases h2.2 with ⟨hn, _⟩ | ⟨g2, cap2, cur2, hv2, _, hh2, _⟩
  · left; injection hn with h1; subst h1; rfl
  · right
    intro e3
    rcases h.2 with ⟨rfl, _⟩ | ⟨g, cap, cur, rfl, _, hh, _⟩
    · rw [hv2] at e3; simp [Value.ownBlock] at e3
    · rw [hv2] at e3
      have : g2 = g := by simpa [Value.ownBlock] using e3
      subst this
      rw [hh] at hh2
      injection hh2 with h4
      injection h4 with _ h5
      exact hne h5.symm
/- append(out, elements..), beside a row of another kind -/
theorem ap_two {ops : Array Oper} {rest : List Oper} {o : Oper} {a : Act} {Q : Exit → Act → World → Prop} (w : World) (hgd : o.guard = none) (sl x : Operand) (t e : TypeId) (z : Value) (bytes : Nat)
    (ht : Tryd.prog.underlying t = some (.slice e)) (hinfo : (Tryd.prog.info? e).map (fun i => (i.zero, i.size, i.bytes)) = some (some z, 1, bytes)) (hzs : z.cells.size = 1) (hby : bytes ≤ 16)
    (ho : o.op = .call { callee := .builtin .append, args := #[sl, x], argTypes := #[t, t] })
    (B : Nat) (A : Option Addr) (n c : Nat) (xs news : List Value) (hs : a.eval sl = .slice A n c) (hown : OwnV w B e A n c xs) (m c2 : Nat) (hx : a.eval x = .slice (some ⟨w.heap.size, 0, none⟩) m c2)
    (hm : news.length = m) (h1 : ∀ u ∈ news, u.oneCell' = true) (hlen : n + m ≤ 1000000) (hB : B ≤ w.heap.size) (e2 : TypeId) (A2 : Option Addr) (n2 c3 : Nat) (ys : List Value) (h2 : OwnV w B e2 A2 n2 c3 ys) (hne : e2 ≠ e)
    (h : ∀ A' c' w', OwnV w' B e A' (n + m) c' (xs ++ news) → Below B w w' → OwnV w' B e2 A2 n2 c3 ys → wpList Tryd.prog ops Q rest (a.put o.dst (.slice A' (n + m) c')) w') : wpList Tryd.prog ops Q (o :: rest) a (w.alloc (.cells news.toArray e)) := by
  obtain ⟨i0, hi, hz0, hz1, hz2⟩ := info_parts hinfo
  have hown2 : (w.alloc (.cells news.toArray e)).ownsRow B e 1 (.slice A n c) n xs := World.ownsRow.alloc hown _
  have hother : OwnV (w.alloc (.cells news.toArray e)) B e2 A2 n2 c3 ys := World.ownsRow.alloc h2 _
  have hsz : (w.alloc (.cells news.toArray e)).heap.size = w.heap.size + 1 := by simp
  refine wpList_append_own _ hgd sl x t ho B e i0 z 1 bytes ht hi hz0 hz1 hz2 hzs (by omega) _ n xs hs hown2 ⟨w.heap.size, 0, none⟩ m c2 news hx (by omega) ?_ h1 (by unfold maxLen; omega) ?_ (by omega) ?_
  · intro j u hu
    have hadd : (⟨w.heap.size, 0, none⟩ : Addr).add j = ⟨w.heap.size, j, none⟩ := by unfold Addr.add; split <;> simp_all
    rw [hadd, cell_of_row _ w.heap.size j news.toArray e (0, 0) (heap_alloc_new w _)]
    simpa using hu
  · have : (n + m) * bytes ≤ 1000000 * 16 := Nat.mul_le_mul hlen hby
    omega
  · intro v' w' g1 g2 _
    obtain ⟨A', c', rfl⟩ := own_form g1
    exact h A' c' w' g1 (((Below.refl B w).alloc hB _).trans (below_of_grown hown2 (by omega) g2)) (own_other hown2 hother hne g2)
/- a store into a row that the call owns, beside a row of another kind -/
theorem own_store {w : World} {B : Nat} {e : TypeId} {g n c : Nat} {xs : List Value} (h : OwnV w B e (some ⟨g, 0, none⟩) n c xs) (j : Nat) (u : Value) : OwnV (w.setCell ⟨g, j, none⟩ u) B e (some ⟨g, 0, none⟩) n c (xs.set j u) := (World.ownsRow.stored h j u).1
theorem own_store_far {w : World} {B : Nat} {e e2 : TypeId} {g n c : Nat} {xs : List Value} {A2 : Option Addr} {n2 c2 : Nat} {ys : List Value} (h : OwnV w B e (some ⟨g, 0, none⟩) n c xs) (h2 : OwnV w B e2 A2 n2 c2 ys) (hne : e2 ≠ e) (j : Nat) (u : Value) : OwnV (w.setCell ⟨g, j, none⟩ u) B e2 A2 n2 c2 ys := by
  refine ⟨h2.1, ?_⟩
  rcases h2.2 with hn | ⟨g2, cap2, cur2, hv2, hb2, hh2, hrest⟩
  · exact .inl hn
  · refine .inr ⟨g2, cap2, cur2, hv2, hb2, ?_, hrest⟩
    rw [Below.heap_setCell w ⟨g, j, none⟩ u g2 (fun e3 => ?_)]
    · exact hh2
    · have e3' : g2 = g := e3
      subst e3'
      rcases h.2 with ⟨hh, _⟩ | ⟨g', cap, cur, hv, _, hh, _⟩
      · cases hh
      · injection hv with h1
        injection h1 with h1
        injection h1 with h1
        subst h1
        rw [hh] at hh2
        injection hh2 with h4
        injection h4 with _ h5
        exact hne h5.symm
theorem own_free {w : World} {B : Nat} {e : TypeId} {g n c : Nat} {xs : List Value} (h : OwnV w B e (some ⟨g, 0, none⟩) n c xs) (j : Nat) : w.frozen? ⟨g, j, none⟩ = false := World.ownsRow.frozenAt h j
theorem own_cell {w : World} {B : Nat} {e : TypeId} {g n c : Nat} {xs : List Value} (h : OwnV w B e (some ⟨g, 0, none⟩) n c xs) (j : Nat) (hj : j < n) : w.cell? ⟨g, j, none⟩ = xs[j]? := World.ownsRow.cellAt h j (by omega)
end Go.Proofs.YtbdfkpgcjdhcdaaDoor
