/- Rows that a call owns, and lists of texts that it reads: what the walks of stage 8 say of memory. -/
import Derived.Test.YtpcmhaflmpcicaaDoorFdFn
import Derived.Lib.AppendStr
import Derived.Lib.FrozenHead
import Derived.Laws.OwnMore
import Derived.OwnWalk
namespace Go.Proofs.YtpcmhaflmpcicaaDoor
open Go.RowKit

/- the slice (A, n, c) owns the cells xs, in a block from B on -/
def OwnV (w : World) (B : Nat) (e : TypeId) (A : Option Addr) (n c : Nat) (xs : List Value) : Prop := w.ownsRow B e 1 (.slice A n c) n xs
/- bytes and texts as cells -/
def bc (l : List UInt8) : List Value := l.map fun b => Value.int .u8 (b.toNat : Int)
def sc (ls : List (List UInt8)) : List Value := ls.map fun l => Value.string ⟨l.toArray⟩
theorem bc_append (a b : List UInt8) : bc (a ++ b) = bc a ++ bc b := by simp [bc]
theorem sc_append (a b : List (List UInt8)) : sc (a ++ b) = sc a ++ sc b := by simp [sc]

theorem size_mk (l : List UInt8) : (ByteArray.mk l.toArray).size = l.length := by simp [ByteArray.size]
theorem OwnV.nil (w : World) (B : Nat) (e : TypeId) : OwnV w B e none 0 0 [] := World.ownsRow_nil _ _ _ _
theorem OwnV.len {w : World} {B : Nat} {e : TypeId} {A : Option Addr} {n c : Nat} {xs : List Value} (h : OwnV w B e A n c xs) : xs.length = n := by simpa using h.1
theorem OwnV.gr {w w' : World} {B : Nat} {e : TypeId} {A : Option Addr} {n c : Nat} {xs : List Value} (h : OwnV w B e A n c xs) (hg : Gr w w') : OwnV w' B e A n c xs := by
  refine ⟨h.1, ?_⟩
  rcases h.2 with hn | ⟨g, cap, cur, hv, hb, hh, rest⟩
  · exact .inl hn
  · exact .inr ⟨g, cap, cur, hv, hb, (hg.below.block g (Array.getElem?_eq_some_iff.1 hh).1).trans hh, rest⟩
theorem OwnV.drew {w : World} {B : Nat} {e : TypeId} {A : Option Addr} {n c : Nat} {xs : List Value} (h : OwnV w B e A n c xs) : OwnV w.drew B e A n c xs := h
theorem OwnV.cap {w : World} {B : Nat} {e : TypeId} {A : Option Addr} {n c : Nat} {xs : List Value} (h : OwnV w B e A n c xs) : n ≤ c := by
  rcases h.2 with ⟨hn, rfl⟩ | ⟨g, cap, cur, hv, _, _, hc, _⟩
  · exact Nat.zero_le _
  · injection hv with _ _ h3; omega
theorem OwnV.cells {w : World} {B : Nat} {e : TypeId} {A : Option Addr} {n c : Nat} {xs : List Value} (h : OwnV w B e A n c xs) (hn : 0 < n) :
    ∃ g, A = some ⟨g, 0, none⟩ ∧ B ≤ g ∧ g < w.heap.size ∧ ∀ j u, xs[j]? = some u → w.cell? ((⟨g, 0, none⟩ : Addr).add j) = some u := by
  have hcell := fun g => World.ownsRow.cells (g := g) h
  rcases h.2 with ⟨_, rfl⟩ | ⟨g, cap, cur, hv, hb, hh, _⟩
  · omega
  · injection hv with h1
    subst h1
    exact ⟨g, rfl, hb, (Array.getElem?_eq_some_iff.1 hh).1, hcell g rfl⟩

/- growth of a row that the call owns, over Below -/
theorem below_of_grown {w w' : World} {B : Nat} {e : TypeId} {v : Value} {n : Nat} {xs : List Value} (h : w.ownsRow B e 1 v n xs) (hB : B ≤ w.heap.size) (hg : w.grownBy w' v.ownBlock) : Below B w w' :=
  (Below.refl B w).grown hg hB (fun k hk => (h.lt k hk).1)
theorem own_form {w : World} {B : Nat} {e : TypeId} {v : Value} {n : Nat} {xs : List Value} (h : w.ownsRow B e 1 v n xs) : ∃ A c, v = .slice A n c := by
  rcases h.2 with ⟨rfl, rfl⟩ | ⟨g, cap, cur, rfl, _⟩
  · exact ⟨_, _, rfl⟩
  · exact ⟨_, _, rfl⟩
theorem info_u8 : (Tryd.prog.info? 5).map (fun i => (i.zero, i.size, i.bytes)) = some (some (.int .u8 0), 1, 1) := by kernel_rfl
theorem info_str : (Tryd.prog.info? 9).map (fun i => (i.zero, i.size, i.bytes)) = some (some (.string ⟨#[]⟩), 1, 16) := by kernel_rfl
theorem info_int : (Tryd.prog.info? 3).map (fun i => (i.zero, i.size, i.bytes)) = some (some (.int .i64 0), 1, 8) := by kernel_rfl

/- append(out, text...) -/
theorem ap_text {ops : Array Oper} {rest : List Oper} {o : Oper} {a : Act} {Q : Exit → Act → World → Prop} (w : World) (hgd : o.guard = none) (sl x : Operand)
    (ho : o.op = .call { callee := .builtin .append, args := #[sl, x], argTypes := #[48, 9] })
    (B : Nat) (A : Option Addr) (n c : Nat) (l : List UInt8) (hs : a.eval sl = .slice A n c) (hown : OwnV w B 5 A n c (bc l)) (s : ByteArray) (hx : a.eval x = .string s)
    (hlen : n + s.size ≤ 1000000) (hB : B ≤ w.heap.size)
    (h : ∀ A' c' w', OwnV w' B 5 A' (n + s.size) c' (bc (l ++ s.data.toList)) → Below B w w' → wpList Tryd.prog ops Q rest (a.put o.dst (.slice A' (n + s.size) c')) w') : wpList Tryd.prog ops Q (o :: rest) a w := by
  obtain ⟨i0, hi, hz0, hz1, hz2⟩ := info_parts info_u8
  refine Lib.wpList_append_own_string w hgd sl x 48 9 ho B 5 i0 Tryd.underlying48 Tryd.underlying9 hi hz0 hz1 hz2 _ n (bc l) hs hown s hx (by unfold maxLen; omega) (by omega) hB ?_
  intro v' w' h1 h2 _
  obtain ⟨A', c', rfl⟩ := own_form h1
  refine h A' c' w' ?_ (below_of_grown hown hB h2)
  rw [bc_append]
  exact h1
/- append(out, elements..), the elements laid in a new block first -/
theorem ap_lit {ops : Array Oper} {rest : List Oper} {o : Oper} {a : Act} {Q : Exit → Act → World → Prop} (w : World) (hgd : o.guard = none) (sl x : Operand) (t e : TypeId) (z : Value) (bytes : Nat)
    (ht : Tryd.prog.underlying t = some (.slice e)) (hinfo : (Tryd.prog.info? e).map (fun i => (i.zero, i.size, i.bytes)) = some (some z, 1, bytes)) (hzs : z.cells.size = 1) (hby : bytes ≤ 16)
    (ho : o.op = .call { callee := .builtin .append, args := #[sl, x], argTypes := #[t, t] })
    (B : Nat) (A : Option Addr) (n c : Nat) (xs news : List Value) (hs : a.eval sl = .slice A n c) (hown : OwnV w B e A n c xs) (m c2 : Nat) (hx : a.eval x = .slice (some ⟨w.heap.size, 0, none⟩) m c2)
    (hm : news.length = m) (h1 : ∀ u ∈ news, u.oneCell' = true) (hlen : n + m ≤ 1000000) (hB : B ≤ w.heap.size)
    (h : ∀ A' c' w', OwnV w' B e A' (n + m) c' (xs ++ news) → Below B w w' → wpList Tryd.prog ops Q rest (a.put o.dst (.slice A' (n + m) c')) w') : wpList Tryd.prog ops Q (o :: rest) a (w.alloc (.cells news.toArray e)) := by
  obtain ⟨i0, hi, hz0, hz1, hz2⟩ := info_parts hinfo
  have hown2 : (w.alloc (.cells news.toArray e)).ownsRow B e 1 (.slice A n c) n xs := World.ownsRow.alloc hown _
  refine wpList_append_own _ hgd sl x t ho B e i0 z 1 bytes ht hi hz0 hz1 hz2 hzs (by omega) _ n xs hs hown2 ⟨w.heap.size, 0, none⟩ m c2 news hx (by omega) ?_ h1 (by unfold maxLen; omega) ?_ ?_ ?_
  · intro j u hu
    have hadd : (⟨w.heap.size, 0, none⟩ : Addr).add j = ⟨w.heap.size, j, none⟩ := by unfold Addr.add; split <;> simp_all
    rw [hadd, cell_of_row _ w.heap.size j news.toArray e (0, 0) (heap_alloc_new w _)]
    simpa using hu
  · have : (n + m) * bytes ≤ 1000000 * 16 := Nat.mul_le_mul hlen hby
    omega
  · have : (w.alloc (.cells news.toArray e)).heap.size = w.heap.size + 1 := by simp
    omega
  · intro v' w' g1 g2 _
    obtain ⟨A', c', rfl⟩ := own_form g1
    refine h A' c' w' g1 ?_
    have hb : Below B (w.alloc (.cells news.toArray e)) w' := below_of_grown hown2 (by have : (w.alloc (.cells news.toArray e)).heap.size = w.heap.size + 1 := by simp
                                                                                       omega) g2
    exact ((Below.refl B w).alloc hB _).trans hb

/- string(bytes) -/
theorem conv_back {w : World} {B : Nat} {A : Option Addr} {n c : Nat} {l : List UInt8} (h : OwnV w B 5 A n c (bc l)) : (convert 48 9 (.slice A n c)).run Tryd.prog w = .ok (.string ⟨l.toArray⟩) w := by
  have hl : l.length = n := by simpa [bc] using h.len
  rcases Nat.eq_zero_or_pos n with h0 | h0
  · subst h0
    have hl0 : l = [] := List.eq_nil_of_length_eq_zero hl
    subst hl0
    rcases A with _ | ad
    · rw [run_convert_bytes_string w 48 9 5 none 0 c Tryd.underlying48 Tryd.underlying5 Tryd.underlying9]
      rfl
    · exact run_convert_bytes_back w 48 9 5 ad c [] Tryd.underlying48 Tryd.underlying5 Tryd.underlying9 (fun j hj => by simp at hj)
  · obtain ⟨g, rfl, _, _, hc⟩ := h.cells h0
    subst hl
    refine run_convert_bytes_back w 48 9 5 ⟨g, 0, none⟩ c l Tryd.underlying48 Tryd.underlying5 Tryd.underlying9 (fun j hj => hc j _ ?_)
    unfold bc
    rw [List.getElem?_map, List.getElem?_eq_getElem hj]
    rfl

/- a list of texts that is read -/
def Strs (w : World) (B : Nat) (A : Option Addr) (n : Nat) (ls : List (List UInt8)) : Prop :=
  ls.length = n ∧ (0 < n → ∃ ad : Addr, A = some ad ∧ ad.block < B ∧ ∀ j u, ls[j]? = some u → w.cell? (ad.add j) = some (.string ⟨u.toArray⟩))
theorem add_block (a : Addr) (n : Nat) : (a.add n).block = a.block := by unfold Addr.add; split <;> rfl
theorem add_add (a : Addr) (i j : Nat) : (a.add i).add j = a.add (i + j) := by
  unfold Addr.add
  by_cases hi : i = 0 <;> by_cases hj : j = 0 <;> simp [hi, hj, Nat.add_assoc]
theorem Strs.keep {w w' : World} {B : Nat} {A : Option Addr} {n : Nat} {ls : List (List UInt8)} (h : Strs w B A n ls) (hb : Below B w w') : Strs w' B A n ls :=
  ⟨h.1, fun hn => by
    obtain ⟨ad, e, hbl, hc⟩ := h.2 hn
    exact ⟨ad, e, hbl, fun j u hu => (hb.cell (by rw [add_block]; exact hbl)).trans (hc j u hu)⟩⟩
theorem Strs.more {w : World} {B B' : Nat} {A : Option Addr} {n : Nat} {ls : List (List UInt8)} (h : Strs w B A n ls) (hB : B ≤ B') : Strs w B' A n ls :=
  ⟨h.1, fun hn => by
    obtain ⟨ad, e, hbl, hc⟩ := h.2 hn
    exact ⟨ad, e, by omega, hc⟩⟩
theorem Strs.of_own {w : World} {B : Nat} {A : Option Addr} {n c : Nat} {ls : List (List UInt8)} (h : OwnV w B 9 A n c (sc ls)) : Strs w w.heap.size A n ls := by
  have hl : ls.length = n := by simpa [sc] using h.len
  refine ⟨hl, fun hn => ?_⟩
  obtain ⟨g, rfl, _, hlt, hc⟩ := h.cells hn
  exact ⟨⟨g, 0, none⟩, rfl, hlt, fun j u hu => hc j _ (by unfold sc; rw [List.getElem?_map, hu]; rfl)⟩
theorem Strs.nil (w : World) (B : Nat) (A : Option Addr) : Strs w B A 0 [] := ⟨rfl, fun h => absurd h (by omega)⟩
theorem Strs.at_ {w : World} {B : Nat} {A : Option Addr} {n : Nat} {ls : List (List UInt8)} (h : Strs w B A n ls) {k : Nat} (hk : k < n) :
    ∃ ad : Addr, ∃ hk' : k < ls.length, A = some ad ∧ ad.block < B ∧ w.cell? (ad.add k) = some (.string ⟨ls[k].toArray⟩) := by
  obtain ⟨ad, e, hb, hc⟩ := h.2 (by omega)
  have hl : k < ls.length := by rw [h.1]; exact hk
  exact ⟨ad, hl, e, hb, hc k _ (List.getElem?_eq_getElem hl)⟩
/- Tab, kept below a block number -/
theorem Tab.low {w w' : World} {B : Nat} (h : Tab w) (hg : Below B w w') (h0 : 0 < B) (h1 : 1 < B) : Tab w' :=
  ⟨fun c hc => (hg.cell h0).trans (h.1 c hc), fun i hi => ⟨(hg.cell h1).trans (h.2 i hi).1, (hg.cell h1).trans (h.2 i hi).2⟩⟩
theorem Tab.lt {w : World} (h : Tab w) : 0 < w.heap.size ∧ 1 < w.heap.size :=
  ⟨World.block_lt_of_cell? _ _ (h.1 0 (by omega)), World.block_lt_of_cell? _ _ (h.2 0 (by omega)).1⟩
theorem Gr.low {w w' : World} {B : Nat} (h : Gr w w') (hB : B ≤ w.heap.size) : Below B w w' := h.below.mono hB
/- single bytes of a text -/
theorem at_toNat (s : ByteArray) (i : Nat) (h : i < s.size) : s.data.toList[i]? = some s[i] := by
  have h2 : i < s.data.toList.length := by rw [← Lib.size_eq]; exact h
  rw [List.getElem?_eq_getElem h2]; rfl
theorem byte_eq {b : UInt8} {n : Nat} (hn : n < 256) : ((b.toNat : Int) == (n : Int)) = true ↔ b = UInt8.ofNat n := by
  constructor
  · intro h
    have h2 : (b.toNat : Int) = n := by simpa only [beq_iff_eq] using h
    have : b.toNat = n := by omega
    apply UInt8.toNat_inj.1
    rw [this]
    simp; omega
  · rintro rfl
    simp; omega
/- two rows of different elements side by side -/
theorem cat_data (a b : ByteArray) : (a ++ b).data.toList = a.data.toList ++ b.data.toList := by rw [ByteArray.data_append, Array.toList_append]
theorem own_other {w w' : World} {B : Nat} {e e2 : TypeId} {v : Value} {n : Nat} {xs : List Value} {A2 : Option Addr} {n2 c2 : Nat} {ys : List Value} (h : w.ownsRow B e 1 v n xs) (h2 : OwnV w B e2 A2 n2 c2 ys) (hne : e2 ≠ e)
    (hg : w.grownBy w' v.ownBlock) : OwnV w' B e2 A2 n2 c2 ys := by
  refine World.ownsRow.kept h2 hg ?_
  rcases h2.2 with ⟨hn, _⟩ | ⟨g2, cap2, cur2, hv2, _, hh2, _⟩
  · left; injection hn with h1; subst h1; rfl
  · right
    intro e3
    rcases h.2 with ⟨rfl, _⟩ | ⟨g, cap, cur, rfl, _, hh, _⟩
    · rw [hv2] at e3; simp [Value.ownBlock] at e3
    · rw [hv2] at e3
      have : g2 = g := by simpa [Value.ownBlock] using e3
      subst this
      rw [hh] at hh2
      injection hh2 with h4
      injection h4 with _ h5
      exact hne h5.symm
/- append(out, elements..), beside a row of another kind -/
theorem ap_two {ops : Array Oper} {rest : List Oper} {o : Oper} {a : Act} {Q : Exit → Act → World → Prop} (w : World) (hgd : o.guard = none) (sl x : Operand) (t e : TypeId) (z : Value) (bytes : Nat)
    (ht : Tryd.prog.underlying t = some (.slice e)) (hinfo : (Tryd.prog.info? e).map (fun i => (i.zero, i.size, i.bytes)) = some (some z, 1, bytes)) (hzs : z.cells.size = 1) (hby : bytes ≤ 16)
    (ho : o.op = .call { callee := .builtin .append, args := #[sl, x], argTypes := #[t, t] })
    (B : Nat) (A : Option Addr) (n c : Nat) (xs news : List Value) (hs : a.eval sl = .slice A n c) (hown : OwnV w B e A n c xs) (m c2 : Nat) (hx : a.eval x = .slice (some ⟨w.heap.size, 0, none⟩) m c2)
    (hm : news.length = m) (h1 : ∀ u ∈ news, u.oneCell' = true) (hlen : n + m ≤ 1000000) (hB : B ≤ w.heap.size) (e2 : TypeId) (A2 : Option Addr) (n2 c3 : Nat) (ys : List Value) (h2 : OwnV w B e2 A2 n2 c3 ys) (hne : e2 ≠ e)
    (h : ∀ A' c' w', OwnV w' B e A' (n + m) c' (xs ++ news) → Below B w w' → OwnV w' B e2 A2 n2 c3 ys → wpList Tryd.prog ops Q rest (a.put o.dst (.slice A' (n + m) c')) w') : wpList Tryd.prog ops Q (o :: rest) a (w.alloc (.cells news.toArray e)) := by
  obtain ⟨i0, hi, hz0, hz1, hz2⟩ := info_parts hinfo
  have hown2 : (w.alloc (.cells news.toArray e)).ownsRow B e 1 (.slice A n c) n xs := World.ownsRow.alloc hown _
  have hother : OwnV (w.alloc (.cells news.toArray e)) B e2 A2 n2 c3 ys := World.ownsRow.alloc h2 _
  have hsz : (w.alloc (.cells news.toArray e)).heap.size = w.heap.size + 1 := by simp
  refine wpList_append_own _ hgd sl x t ho B e i0 z 1 bytes ht hi hz0 hz1 hz2 hzs (by omega) _ n xs hs hown2 ⟨w.heap.size, 0, none⟩ m c2 news hx (by omega) ?_ h1 (by unfold maxLen; omega) ?_ (by omega) ?_
  · intro j u hu
    have hadd : (⟨w.heap.size, 0, none⟩ : Addr).add j = ⟨w.heap.size, j, none⟩ := by unfold Addr.add; split <;> simp_all
    rw [hadd, cell_of_row _ w.heap.size j news.toArray e (0, 0) (heap_alloc_new w _)]
    simpa using hu
  · have : (n + m) * bytes ≤ 1000000 * 16 := Nat.mul_le_mul hlen hby
    omega
  · intro v' w' g1 g2 _
    obtain ⟨A', c', rfl⟩ := own_form g1
    exact h A' c' w' g1 (((Below.refl B w).alloc hB _).trans (below_of_grown hown2 (by omega) g2)) (own_other hown2 hother hne g2)
/- a store into a row that the call owns, beside a row of another kind -/
theorem own_store {w : World} {B : Nat} {e : TypeId} {g n c : Nat} {xs : List Value} (h : OwnV w B e (some ⟨g, 0, none⟩) n c xs) (j : Nat) (u : Value) : OwnV (w.setCell ⟨g, j, none⟩ u) B e (some ⟨g, 0, none⟩) n c (xs.set j u) := (World.ownsRow.stored h j u).1
theorem own_store_far {w : World} {B : Nat} {e e2 : TypeId} {g n c : Nat} {xs : List Value} {A2 : Option Addr} {n2 c2 : Nat} {ys : List Value} (h : OwnV w B e (some ⟨g, 0, none⟩) n c xs) (h2 : OwnV w B e2 A2 n2 c2 ys) (hne : e2 ≠ e) (j : Nat) (u : Value) : OwnV (w.setCell ⟨g, j, none⟩ u) B e2 A2 n2 c2 ys := by
  refine ⟨h2.1, ?_⟩
  rcases h2.2 with hn | ⟨g2, cap2, cur2, hv2, hb2, hh2, hrest⟩
  · exact .inl hn
  · refine .inr ⟨g2, cap2, cur2, hv2, hb2, ?_, hrest⟩
    rw [Below.heap_setCell w ⟨g, j, none⟩ u g2 (fun e3 => ?_)]
    · exact hh2
    · have e3' : g2 = g := e3
      subst e3'
      rcases h.2 with ⟨hh, _⟩ | ⟨g', cap, cur, hv, _, hh, _⟩
      · cases hh
      · injection hv with h1
        injection h1 with h1
        injection h1 with h1
        subst h1
        rw [hh] at hh2
        injection hh2 with h4
        injection h4 with _ h5
        exact hne h5.symm
theorem own_free {w : World} {B : Nat} {e : TypeId} {g n c : Nat} {xs : List Value} (h : OwnV w B e (some ⟨g, 0, none⟩) n c xs) (j : Nat) : w.frozen? ⟨g, j, none⟩ = false := World.ownsRow.frozenAt h j
theorem own_cell {w : World} {B : Nat} {e : TypeId} {g n c : Nat} {xs : List Value} (h : OwnV w B e (some ⟨g, 0, none⟩) n c xs) (j : Nat) (hj : j < n) : w.cell? ⟨g, j, none⟩ = xs[j]? := World.ownsRow.cellAt h j (by omega)
end Go.Proofs.YtpcmhaflmpcicaaDoor
