/- The texts RcMem, RcTab, RcTwo, RcFn, RcNum, RcAft, RcEq, one behind the other. -/
import Derived.Test.YtmbmkldcedkbmaaGreatChecked
import Derived.Test.YtmbmkldcedkbmaaGreatZA
import Derived.Lib.AppendStr
import Derived.Lib.FrozenHead
import Derived.Lib.Strings
import Derived.Lib.IndexBytes
import Derived.Laws.OwnMore
import Derived.Laws.IdiomStrings
import Derived.OwnWalk
import Derived.WalkSpells
import Derived.Deep.LoopGhost
import Derived.Deep.AppendLies
import Derived.Deep.AppendSrc
import Derived.Deep.MidRow
import Derived.Test.YtmbmkldcedkbmaaGreatZD
import Derived.Test.YtmbmkldcedkbmaaGreatZShelf3
import Derived.Lib.AppendZerosOnto
import Derived.BigQuiet
import Derived.Test.YtmbmkldcedkbmaaGreatZShelf
import Derived.BigRegion
import Derived.Deep.RegionHeld3
import Derived.Laws.ResultCell
namespace Go.Proofs.YtmbmkldcedkbmaaGreat
open Go.RowKit

theorem Gr.allocO {w w' : World} (h : Gr w w') (o : Obj) : Gr w (w'.alloc o) := ⟨h.below.alloc h.below.size _⟩
theorem mk_data (s : ByteArray) : (⟨s.data.toList.toArray⟩ : ByteArray) = s := rfl
theorem str_data {s : ByteArray} {l : List UInt8} (h : s.data.toList = l) : s = ⟨l.toArray⟩ := by rw [← h]
theorem extract_to (s : ByteArray) (n : Nat) : s.extract 0 n = ⟨(s.data.toList.take n).toArray⟩ := str_data (by simp [ByteArray.data_extract])
theorem extract_from (s : ByteArray) (n : Nat) : s.extract n s.size = ⟨(s.data.toList.drop n).toArray⟩ := str_data (by
  have : s.size = s.data.toList.length := Lib.size_eq s
  simp only [ByteArray.data_extract, Array.toList_extract, List.extract_eq_take_drop]
  exact List.take_of_length_le (by rw [List.length_drop]; omega))
namespace Fd
theorem idx_in (c : UInt8) : ∀ l : List UInt8, c ∈ l → Lib.indexByte l c = ((l.takeWhile (· != c)).length : Int)
  | [], h => by cases h
  | b :: l, h => by
    unfold Lib.indexByte
    by_cases e : b = c
    · subst e; simp
    · have h1 : c ∈ l := by rcases List.mem_cons.1 h with h | h; exact absurd h.symm e; exact h
      have i := idx_in c l h1
      rw [i]
      have : ((((l.takeWhile (· != c)).length : Int)) == -1) = false := by rw [beq_eq_false_iff_ne]; omega
      simp [e, this]
theorem idx_out (c : UInt8) : ∀ l : List UInt8, c ∉ l → Lib.indexByte l c = -1
  | [], _ => rfl
  | b :: l, h => by
    unfold Lib.indexByte
    simp only [List.mem_cons, not_or] at h
    rw [idx_out c l h.2]
    have : (b == c) = false := by rw [beq_eq_false_iff_ne]; exact fun e => h.1 e.symm
    simp [this]
theorem idx_has (c : UInt8) (l : List UInt8) : decide (0 ≤ Lib.indexByte l c) = l.contains c := by
  by_cases h : c ∈ l
  · rw [idx_in c l h]; simp [h]
  · rw [idx_out c l h]; simp [h]
end Fd
/- the slice (A, n, c) owns the cells xs, in a block from B on -/
def OwnV (w : World) (B : Nat) (e : TypeId) (A : Option Addr) (n c : Nat) (xs : List Value) : Prop := w.ownsRow B e 1 (.slice A n c) n xs
/- bytes and texts as cells -/
def bc (l : List UInt8) : List Value := l.map fun b => Value.int .u8 (b.toNat : Int)
def sc (ls : List (List UInt8)) : List Value := ls.map fun l => Value.string ⟨l.toArray⟩
theorem bc_append (a b : List UInt8) : bc (a ++ b) = bc a ++ bc b := by simp [bc]
theorem sc_append (a b : List (List UInt8)) : sc (a ++ b) = sc a ++ sc b := by simp [sc]
theorem size_mk (l : List UInt8) : (ByteArray.mk l.toArray).size = l.length := by simp [ByteArray.size]
theorem OwnV.nil (w : World) (B : Nat) (e : TypeId) : OwnV w B e none 0 0 [] := World.ownsRow_nil _ _ _ _
theorem OwnV.len {w : World} {B : Nat} {e : TypeId} {A : Option Addr} {n c : Nat} {xs : List Value} (h : OwnV w B e A n c xs) : xs.length = n := by simpa using h.1
theorem OwnV.gr {w w' : World} {B : Nat} {e : TypeId} {A : Option Addr} {n c : Nat} {xs : List Value} (h : OwnV w B e A n c xs) (hg : Gr w w') : OwnV w' B e A n c xs := by
  refine ⟨h.1, ?_⟩
  rcases h.2 with hn | ⟨g, cap, cur, hv, hb, hh, rest⟩
  · exact .inl hn
  · exact .inr ⟨g, cap, cur, hv, hb, (hg.below.block g (Array.getElem?_eq_some_iff.1 hh).1).trans hh, rest⟩
theorem OwnV.drew {w : World} {B : Nat} {e : TypeId} {A : Option Addr} {n c : Nat} {xs : List Value} (h : OwnV w B e A n c xs) : OwnV w.drew B e A n c xs := h
theorem OwnV.cap {w : World} {B : Nat} {e : TypeId} {A : Option Addr} {n c : Nat} {xs : List Value} (h : OwnV w B e A n c xs) : n ≤ c := by
  rcases h.2 with ⟨hn, rfl⟩ | ⟨g, cap, cur, hv, _, _, hc, _⟩
  · exact Nat.zero_le _
  · injection hv with _ _ h3; omega
theorem OwnV.cells {w : World} {B : Nat} {e : TypeId} {A : Option Addr} {n c : Nat} {xs : List Value} (h : OwnV w B e A n c xs) (hn : 0 < n) :
    ∃ g, A = some ⟨g, 0, none⟩ ∧ B ≤ g ∧ g < w.heap.size ∧ ∀ j u, xs[j]? = some u → w.cell? ((⟨g, 0, none⟩ : Addr).add j) = some u := by
  have hcell := fun g => World.ownsRow.cells (g := g) h
  rcases h.2 with ⟨_, rfl⟩ | ⟨g, cap, cur, hv, hb, hh, _⟩
  · omega
  · injection hv with h1
    subst h1
    exact ⟨g, rfl, hb, (Array.getElem?_eq_some_iff.1 hh).1, hcell g rfl⟩
/- growth of a row that the call owns, over Below -/
theorem below_of_grown {w w' : World} {B : Nat} {e : TypeId} {v : Value} {n : Nat} {xs : List Value} (h : w.ownsRow B e 1 v n xs) (hB : B ≤ w.heap.size) (hg : w.grownBy w' v.ownBlock) : Below B w w' :=
  (Below.refl B w).grown hg hB (fun k hk => (h.lt k hk).1)
theorem own_form {w : World} {B : Nat} {e : TypeId} {v : Value} {n : Nat} {xs : List Value} (h : w.ownsRow B e 1 v n xs) : ∃ A c, v = .slice A n c := by
  rcases h.2 with ⟨rfl, rfl⟩ | ⟨g, cap, cur, rfl, _⟩
  · exact ⟨_, _, rfl⟩
  · exact ⟨_, _, rfl⟩
theorem info_u8 : (Tryz.prog.info? 5).map (fun i => (i.zero, i.size, i.bytes)) = some (some (.int .u8 0), 1, 1) := by kernel_rfl
theorem info_str : (Tryz.prog.info? 9).map (fun i => (i.zero, i.size, i.bytes)) = some (some (.string ⟨#[]⟩), 1, 16) := by kernel_rfl
theorem info_int : (Tryz.prog.info? 3).map (fun i => (i.zero, i.size, i.bytes)) = some (some (.int .i64 0), 1, 8) := by kernel_rfl
/- append(out, text...) -/
/- append(out, elements..), the elements laid in a new block first -/
theorem ap_lit {ops : Array Oper} {rest : List Oper} {o : Oper} {a : Act} {Q : Exit → Act → World → Prop} (w : World) (hgd : o.guard = none) (sl x : Operand) (t e : TypeId) (z : Value) (bytes : Nat)
    (ht : Tryz.prog.underlying t = some (.slice e)) (hinfo : (Tryz.prog.info? e).map (fun i => (i.zero, i.size, i.bytes)) = some (some z, 1, bytes)) (hzs : z.cells.size = 1) (hby : bytes ≤ 16)
    (ho : o.op = .call { callee := .builtin .append, args := #[sl, x], argTypes := #[t, t] })
    (B : Nat) (A : Option Addr) (n c : Nat) (xs news : List Value) (hs : a.eval sl = .slice A n c) (hown : OwnV w B e A n c xs) (m c2 : Nat) (hx : a.eval x = .slice (some ⟨w.heap.size, 0, none⟩) m c2)
    (hm : news.length = m) (h1 : ∀ u ∈ news, u.oneCell' = true) (hlen : n + m ≤ 1000000) (hB : B ≤ w.heap.size)
    (h : ∀ A' c' w', OwnV w' B e A' (n + m) c' (xs ++ news) → Below B w w' → wpList Tryz.prog ops Q rest (a.put o.dst (.slice A' (n + m) c')) w') : wpList Tryz.prog ops Q (o :: rest) a (w.alloc (.cells news.toArray e)) := by
  obtain ⟨i0, hi, hz0, hz1, hz2⟩ := info_parts hinfo
  have hown2 : (w.alloc (.cells news.toArray e)).ownsRow B e 1 (.slice A n c) n xs := World.ownsRow.alloc hown _
  refine wpList_append_own _ hgd sl x t ho B e i0 z 1 bytes ht hi hz0 hz1 hz2 hzs (by omega) _ n xs hs hown2 ⟨w.heap.size, 0, none⟩ m c2 news hx (by omega) ?_ h1 (by unfold maxLen; omega) ?_ ?_ ?_
  · intro j u hu
    have hadd : (⟨w.heap.size, 0, none⟩ : Addr).add j = ⟨w.heap.size, j, none⟩ := by unfold Addr.add; split <;> simp_all
    rw [hadd, cell_of_row _ w.heap.size j news.toArray e (0, 0) (heap_alloc_new w _)]
    simpa using hu
  · have : (n + m) * bytes ≤ 1000000 * 16 := Nat.mul_le_mul hlen hby
    omega
  · have : (w.alloc (.cells news.toArray e)).heap.size = w.heap.size + 1 := by simp
    omega
  · intro v' w' g1 g2 _
    obtain ⟨A', c', rfl⟩ := own_form g1
    refine h A' c' w' g1 ?_
    have hb : Below B (w.alloc (.cells news.toArray e)) w' := below_of_grown hown2 (by have : (w.alloc (.cells news.toArray e)).heap.size = w.heap.size + 1 := by simp
                                                                                       omega) g2
    exact ((Below.refl B w).alloc hB _).trans hb
/- string(bytes) -/
/- a list of texts that is read -/
def Strs (w : World) (B : Nat) (A : Option Addr) (n : Nat) (ls : List (List UInt8)) : Prop :=
  ls.length = n ∧ (0 < n → ∃ ad : Addr, A = some ad ∧ ad.block < B ∧ ∀ j u, ls[j]? = some u → w.cell? (ad.add j) = some (.string ⟨u.toArray⟩))
theorem add_block (a : Addr) (n : Nat) : (a.add n).block = a.block := by unfold Addr.add; split <;> rfl
theorem add_add (a : Addr) (i j : Nat) : (a.add i).add j = a.add (i + j) := by
  unfold Addr.add
  by_cases hi : i = 0 <;> by_cases hj : j = 0 <;> simp [hi, hj, Nat.add_assoc]
theorem Strs.keep {w w' : World} {B : Nat} {A : Option Addr} {n : Nat} {ls : List (List UInt8)} (h : Strs w B A n ls) (hb : Below B w w') : Strs w' B A n ls :=
  ⟨h.1, fun hn => by
    obtain ⟨ad, e, hbl, hc⟩ := h.2 hn
    exact ⟨ad, e, hbl, fun j u hu => (hb.cell (by rw [add_block]; exact hbl)).trans (hc j u hu)⟩⟩
theorem Strs.more {w : World} {B B' : Nat} {A : Option Addr} {n : Nat} {ls : List (List UInt8)} (h : Strs w B A n ls) (hB : B ≤ B') : Strs w B' A n ls :=
  ⟨h.1, fun hn => by
    obtain ⟨ad, e, hbl, hc⟩ := h.2 hn
    exact ⟨ad, e, by omega, hc⟩⟩
theorem Strs.of_own {w : World} {B : Nat} {A : Option Addr} {n c : Nat} {ls : List (List UInt8)} (h : OwnV w B 9 A n c (sc ls)) : Strs w w.heap.size A n ls := by
  have hl : ls.length = n := by simpa [sc] using h.len
  refine ⟨hl, fun hn => ?_⟩
  obtain ⟨g, rfl, _, hlt, hc⟩ := h.cells hn
  exact ⟨⟨g, 0, none⟩, rfl, hlt, fun j u hu => hc j _ (by unfold sc; rw [List.getElem?_map, hu]; rfl)⟩
theorem Strs.nil (w : World) (B : Nat) (A : Option Addr) : Strs w B A 0 [] := ⟨rfl, fun h => absurd h (by omega)⟩
theorem Strs.at_ {w : World} {B : Nat} {A : Option Addr} {n : Nat} {ls : List (List UInt8)} (h : Strs w B A n ls) {k : Nat} (hk : k < n) :
    ∃ ad : Addr, ∃ hk' : k < ls.length, A = some ad ∧ ad.block < B ∧ w.cell? (ad.add k) = some (.string ⟨ls[k].toArray⟩) := by
  obtain ⟨ad, e, hb, hc⟩ := h.2 (by omega)
  have hl : k < ls.length := by rw [h.1]; exact hk
  exact ⟨ad, hl, e, hb, hc k _ (List.getElem?_eq_getElem hl)⟩
theorem Gr.low {w w' : World} {B : Nat} (h : Gr w w') (hB : B ≤ w.heap.size) : Below B w w' := h.below.mono hB
/- single bytes of a text -/
theorem at_toNat (s : ByteArray) (i : Nat) (h : i < s.size) : s.data.toList[i]? = some s[i] := by
  have h2 : i < s.data.toList.length := by rw [← Lib.size_eq]; exact h
  rw [List.getElem?_eq_getElem h2]; rfl
theorem byte_eq {b : UInt8} {n : Nat} (hn : n < 256) : ((b.toNat : Int) == (n : Int)) = true ↔ b = UInt8.ofNat n := by
  constructor
  · intro h
    have h2 : (b.toNat : Int) = n := by simpa only [beq_iff_eq] using h
    have : b.toNat = n := by omega
    apply UInt8.toNat_inj.1
    rw [this]
    simp; omega
  · rintro rfl
    simp; omega
/- two rows of different elements side by side -/
theorem cat_data (a b : ByteArray) : (a ++ b).data.toList = a.data.toList ++ b.data.toList := by rw [ByteArray.data_append, Array.toList_append]
theorem own_other {w w' : World} {B : Nat} {e e2 : TypeId} {v : Value} {n : Nat} {xs : List Value} {A2 : Option Addr} {n2 c2 : Nat} {ys : List Value} (h : w.ownsRow B e 1 v n xs) (h2 : OwnV w B e2 A2 n2 c2 ys) (hne : e2 ≠ e)
    (hg : w.grownBy w' v.ownBlock) : OwnV w' B e2 A2 n2 c2 ys := by
  refine World.ownsRow.kept h2 hg ?_
  rcases h2.2 with ⟨hn, _⟩ | ⟨g2, cap2, cur2, hv2, _, hh2, _⟩
  · left; injection hn with h1; subst h1; rfl
  · right
    intro e3
    rcases h.2 with ⟨rfl, _⟩ | ⟨g, cap, cur, rfl, _, hh, _⟩
    · rw [hv2] at e3; simp [Value.ownBlock] at e3
    · rw [hv2] at e3
      have : g2 = g := by simpa [Value.ownBlock] using e3
      subst this
      rw [hh] at hh2
      injection hh2 with h4
      injection h4 with _ h5
      exact hne h5.symm
/- append(out, elements..), beside a row of another kind -/
theorem ap_two {ops : Array Oper} {rest : List Oper} {o : Oper} {a : Act} {Q : Exit → Act → World → Prop} (w : World) (hgd : o.guard = none) (sl x : Operand) (t e : TypeId) (z : Value) (bytes : Nat)
    (ht : Tryz.prog.underlying t = some (.slice e)) (hinfo : (Tryz.prog.info? e).map (fun i => (i.zero, i.size, i.bytes)) = some (some z, 1, bytes)) (hzs : z.cells.size = 1) (hby : bytes ≤ 16)
    (ho : o.op = .call { callee := .builtin .append, args := #[sl, x], argTypes := #[t, t] })
    (B : Nat) (A : Option Addr) (n c : Nat) (xs news : List Value) (hs : a.eval sl = .slice A n c) (hown : OwnV w B e A n c xs) (m c2 : Nat) (hx : a.eval x = .slice (some ⟨w.heap.size, 0, none⟩) m c2)
    (hm : news.length = m) (h1 : ∀ u ∈ news, u.oneCell' = true) (hlen : n + m ≤ 1000000) (hB : B ≤ w.heap.size) (e2 : TypeId) (A2 : Option Addr) (n2 c3 : Nat) (ys : List Value) (h2 : OwnV w B e2 A2 n2 c3 ys) (hne : e2 ≠ e)
    (h : ∀ A' c' w', OwnV w' B e A' (n + m) c' (xs ++ news) → Below B w w' → OwnV w' B e2 A2 n2 c3 ys → wpList Tryz.prog ops Q rest (a.put o.dst (.slice A' (n + m) c')) w') : wpList Tryz.prog ops Q (o :: rest) a (w.alloc (.cells news.toArray e)) := by
  obtain ⟨i0, hi, hz0, hz1, hz2⟩ := info_parts hinfo
  have hown2 : (w.alloc (.cells news.toArray e)).ownsRow B e 1 (.slice A n c) n xs := World.ownsRow.alloc hown _
  have hother : OwnV (w.alloc (.cells news.toArray e)) B e2 A2 n2 c3 ys := World.ownsRow.alloc h2 _
  have hsz : (w.alloc (.cells news.toArray e)).heap.size = w.heap.size + 1 := by simp
  refine wpList_append_own _ hgd sl x t ho B e i0 z 1 bytes ht hi hz0 hz1 hz2 hzs (by omega) _ n xs hs hown2 ⟨w.heap.size, 0, none⟩ m c2 news hx (by omega) ?_ h1 (by unfold maxLen; omega) ?_ (by omega) ?_
  · intro j u hu
    have hadd : (⟨w.heap.size, 0, none⟩ : Addr).add j = ⟨w.heap.size, j, none⟩ := by unfold Addr.add; split <;> simp_all
    rw [hadd, cell_of_row _ w.heap.size j news.toArray e (0, 0) (heap_alloc_new w _)]
    simpa using hu
  · have : (n + m) * bytes ≤ 1000000 * 16 := Nat.mul_le_mul hlen hby
    omega
  · intro v' w' g1 g2 _
    obtain ⟨A', c', rfl⟩ := own_form g1
    exact h A' c' w' g1 (((Below.refl B w).alloc hB _).trans (below_of_grown hown2 (by omega) g2)) (own_other hown2 hother hne g2)
/- a store into a row that the call owns, beside a row of another kind -/
theorem own_store {w : World} {B : Nat} {e : TypeId} {g n c : Nat} {xs : List Value} (h : OwnV w B e (some ⟨g, 0, none⟩) n c xs) (j : Nat) (u : Value) : OwnV (w.setCell ⟨g, j, none⟩ u) B e (some ⟨g, 0, none⟩) n c (xs.set j u) := (World.ownsRow.stored h j u).1
theorem own_store_far {w : World} {B : Nat} {e e2 : TypeId} {g n c : Nat} {xs : List Value} {A2 : Option Addr} {n2 c2 : Nat} {ys : List Value} (h : OwnV w B e (some ⟨g, 0, none⟩) n c xs) (h2 : OwnV w B e2 A2 n2 c2 ys) (hne : e2 ≠ e) (j : Nat) (u : Value) : OwnV (w.setCell ⟨g, j, none⟩ u) B e2 A2 n2 c2 ys := by
  refine ⟨h2.1, ?_⟩
  rcases h2.2 with hn | ⟨g2, cap2, cur2, hv2, hb2, hh2, hrest⟩
  · exact .inl hn
  · refine .inr ⟨g2, cap2, cur2, hv2, hb2, ?_, hrest⟩
    rw [Below.heap_setCell w ⟨g, j, none⟩ u g2 (fun e3 => ?_)]
    · exact hh2
    · have e3' : g2 = g := e3
      subst e3'
      rcases h.2 with ⟨hh, _⟩ | ⟨g', cap, cur, hv, _, hh, _⟩
      · cases hh
      · injection hv with h1
        injection h1 with h1
        injection h1 with h1
        subst h1
        rw [hh] at hh2
        injection hh2 with h4
        injection h4 with _ h5
        exact hne h5.symm
theorem own_free {w : World} {B : Nat} {e : TypeId} {g n c : Nat} {xs : List Value} (h : OwnV w B e (some ⟨g, 0, none⟩) n c xs) (j : Nat) : w.frozen? ⟨g, j, none⟩ = false := World.ownsRow.frozenAt h j
theorem own_cell {w : World} {B : Nat} {e : TypeId} {g n c : Nat} {xs : List Value} (h : OwnV w B e (some ⟨g, 0, none⟩) n c xs) (j : Nat) (hj : j < n) : w.cell? ⟨g, j, none⟩ = xs[j]? := World.ownsRow.cellAt h j (by omega)
/- a row of bytes of the call's own, told by its cells -/
structure RowG (w : World) (B g n c : Nat) (l : List UInt8) : Prop where
  new : B ≤ g
  len : l.length = n
  le : n ≤ c
  max : c ≤ maxLen
  holds : ∀ j, j < n → w.cell? ⟨g, j, none⟩ = (bc l)[j]?
  there : ∀ j, j < c → (w.cell? ⟨g, j, none⟩).isSome = true ∧ w.frozen? ⟨g, j, none⟩ = false
theorem below_setCells {B g : Nat} {w : World} (hg : B ≤ g) : ∀ (vs : List Value) (o : Nat) (w' : World), Below B w w' → Below B w (w'.setCells g o vs)
  | [], _, _, h => h
  | v :: vs, o, _, h => below_setCells hg vs (o + 1) _ (h.setCell (p := ⟨g, o, none⟩) hg v)
theorem bc_len (l : List UInt8) : (bc l).length = l.length := by simp [bc]
/- []byte(text) -/
/- string(bytes) -/
theorem str_eq {a b : ByteArray} {q : Bool} (h : q = true ↔ a.data.toList = b.data.toList) : (a.toList == b.toList) = q := by
  rw [Lib.toList_data, Lib.toList_data, Bool.eq_iff_iff, h, beq_iff_eq]
end Go.Proofs.YtmbmkldcedkbmaaGreat
namespace Go.Proofs.YtmbmkldcedkbmaaGreat
open Go.RowKit

namespace Rm
def wds : List (List UInt8) := [[83, 85], [77, 79], [84, 85], [87, 69], [84, 72], [70, 82], [83, 65]]
def frs : List (List UInt8) := [[68, 65, 73, 76, 89], [87, 69, 69, 75, 76, 89], [77, 79, 78, 84, 72, 76, 89], [89, 69, 65, 82, 76, 89]]
end Rm
/- an element of an array that is a value -/
theorem run_ix (w : World) {t e : TypeId} {n : Nat} (arr : Array Value) (i : Nat) (v : Value) (ht : Tryz.prog.underlying t = some (.array n e)) (ha : (isAgg e).run Tryz.prog w = .ok false w) (hz : (Go.sizeOf e).run Tryz.prog w = .ok 1 w) (hi : i < n) (hv : arr[i]? = some v) :
    Sem.run Tryz.prog (Instr.index t (.agg arr) (.int .i64 (i : Int))) w = .ok v w := by
  have hi2 : ¬ n ≤ i := by omega
  simp [Instr.index, run_underlying ht, asIntOf, hi2, part, ha, hz, hv, go_sem]
theorem run_ixA (w : World) {t e : TypeId} {n : Nat} (arr : Array Value) (i z : Nat) (ht : Tryz.prog.underlying t = some (.array n e)) (ha : (isAgg e).run Tryz.prog w = .ok true w) (hz : (Go.sizeOf e).run Tryz.prog w = .ok z w) (hi : i < n) :
    Sem.run Tryz.prog (Instr.index t (.agg arr) (.int .i64 (i : Int))) w = .ok (.agg (arr.extract (i * z) (i * z + z))) w := by
  have hi2 : ¬ n ≤ i := by omega
  simp [Instr.index, run_underlying ht, asIntOf, hi2, part, ha, hz, go_sem]
namespace Rm
theorem which_at : ∀ (k : Nat) (l : List UInt8), wds[k]? = some l → which l = (k : Int)
  | 0, _, h => by cases h; decide
  | 1, _, h => by cases h; decide
  | 2, _, h => by cases h; decide
  | 3, _, h => by cases h; decide
  | 4, _, h => by cases h; decide
  | 5, _, h => by cases h; decide
  | 6, _, h => by cases h; decide
  | k + 7, _, h => by cases h
theorem which_out {l : List UInt8} (h : l ∉ wds) : which l = -1 := by
  unfold wds at h
  simp only [List.mem_cons, List.not_mem_nil, or_false, not_or] at h
  unfold which
  rw [if_neg h.1, if_neg h.2.1, if_neg h.2.2.1, if_neg h.2.2.2.1, if_neg h.2.2.2.2.1, if_neg h.2.2.2.2.2.1, if_neg h.2.2.2.2.2.2]
theorem freqR_at : ∀ (k : Nat) (l : List UInt8), frs[k]? = some l → freqR l = some (1 + (k : Int))
  | 0, _, h => by cases h; decide
  | 1, _, h => by cases h; decide
  | 2, _, h => by cases h; decide
  | 3, _, h => by cases h; decide
  | k + 4, _, h => by cases h
theorem freqR_out {l : List UInt8} (h : l ∉ frs) : freqR l = none := by
  unfold frs at h
  simp only [List.mem_cons, List.not_mem_nil, or_false, not_or] at h
  unfold freqR
  rw [if_neg h.1, if_neg h.2.1, if_neg h.2.2.1, if_neg h.2.2.2]
end Rm
end Go.Proofs.YtmbmkldcedkbmaaGreat
namespace Go.Proofs.YtmbmkldcedkbmaaGreat
open Go.RowKit

/- a list of elements of two cells that is read -/
def Pr2 {α : Type} (f g : α → Value) (w : World) (B : Nat) (A : Option Addr) (n : Nat) (ps : List α) : Prop :=
  ps.length = n ∧ (0 < n → ∃ ad : Addr, A = some ad ∧ ad.block < B ∧ ∀ j p, ps[j]? = some p → w.cell? (ad.add (j * 2)) = some (f p) ∧ w.cell? ⟨(ad.add (j * 2)).block, (ad.add (j * 2)).off + 1, none⟩ = some (g p))
section
variable {α : Type} {f g : α → Value} {w w' : World} {B : Nat} {A : Option Addr} {n : Nat} {ps : List α}
theorem Pr2.nil (w : World) (B : Nat) (A : Option Addr) : Pr2 f g w B A 0 [] := ⟨rfl, fun h => absurd h (by omega)⟩
theorem Pr2.at_ (h : Pr2 f g w B A n ps) {k : Nat} (hk : k < n) :
    ∃ ad : Addr, ∃ hk' : k < ps.length, A = some ad ∧ ad.block < B ∧ w.cell? (ad.add (k * 2)) = some (f ps[k]) ∧ w.cell? ⟨(ad.add (k * 2)).block, (ad.add (k * 2)).off + 1, none⟩ = some (g ps[k]) := by
  obtain ⟨ad, e, hb, hc⟩ := h.2 (by omega)
  have hl : k < ps.length := by rw [h.1]; exact hk
  exact ⟨ad, hl, e, hb, hc k _ (List.getElem?_eq_getElem hl)⟩
theorem Pr2.keep (h : Pr2 f g w B A n ps) (hb : Below B w w') : Pr2 f g w' B A n ps :=
  ⟨h.1, fun hn => by
    obtain ⟨ad, e, hbl, hc⟩ := h.2 hn
    exact ⟨ad, e, hbl, fun j p hp => ⟨(hb.cell (by rw [add_block]; exact hbl)).trans (hc j p hp).1, (hb.cell (by show (ad.add (j * 2)).block < B; rw [add_block]; exact hbl)).trans (hc j p hp).2⟩⟩⟩
theorem Pr2.more {B' : Nat} (h : Pr2 f g w B A n ps) (hB : B ≤ B') : Pr2 f g w B' A n ps :=
  ⟨h.1, fun hn => by
    obtain ⟨ad, e, hbl, hc⟩ := h.2 hn
    exact ⟨ad, e, by omega, hc⟩⟩
theorem Pr2.gr (h : Pr2 f g w w.heap.size A n ps) (hg : Gr w w') : Pr2 f g w' w'.heap.size A n ps := (h.keep hg.below).more hg.lt
theorem Pr2.cut (h : Pr2 f g w B A n ps) (k : Nat) (hk : k ≤ n) : Pr2 f g w B A k (ps.take k) :=
  ⟨by rw [List.length_take, h.1]; omega, fun hn => by
    obtain ⟨ad, e, hbl, hc⟩ := h.2 (by omega)
    refine ⟨ad, e, hbl, fun j p hp => hc j p ?_⟩
    rw [List.getElem?_take] at hp
    split at hp
    · exact hp
    · cases hp⟩
end
/- .. that a call owns -/
def Own2 (w : World) (B : Nat) (e : TypeId) (A : Option Addr) (n c : Nat) (xs : List Value) : Prop := w.ownsRow B e 2 (.slice A n c) n xs
def cel2 {α : Type} (f g : α → Value) (ps : List α) : List Value := ps.flatMap fun p => [f p, g p]
theorem cel2_app {α : Type} (f g : α → Value) (a b : List α) : cel2 f g (a ++ b) = cel2 f g a ++ cel2 f g b := by simp [cel2]
theorem cel2_len {α : Type} (f g : α → Value) : ∀ ps : List α, (cel2 f g ps).length = ps.length * 2
  | [] => rfl
  | p :: t => by
    have := cel2_len f g t
    unfold cel2 at *
    rw [List.flatMap_cons, List.length_append, this, List.length_cons]
    simp; omega
theorem cel2_at {α : Type} (f g : α → Value) : ∀ (ps : List α) (j : Nat) (p : α), ps[j]? = some p → (cel2 f g ps)[j * 2]? = some (f p) ∧ (cel2 f g ps)[j * 2 + 1]? = some (g p)
  | [], j, p, h => by simp at h
  | q :: t, 0, p, h => by
    obtain rfl : q = p := by simpa using h
    exact ⟨rfl, rfl⟩
  | q :: t, j + 1, p, h => by
    have := cel2_at f g t j p (by simpa using h)
    rw [show (j + 1) * 2 = j * 2 + 1 + 1 by omega]
    unfold cel2 at *
    simpa using this
theorem Own2.nil (w : World) (B : Nat) (e : TypeId) : Own2 w B e none 0 0 [] := World.ownsRow_nil _ _ _ _
theorem Own2.gr {w w' : World} {B : Nat} {e : TypeId} {A : Option Addr} {n c : Nat} {xs : List Value} (h : Own2 w B e A n c xs) (hg : Gr w w') : Own2 w' B e A n c xs := by
  refine ⟨h.1, ?_⟩
  rcases h.2 with hn | ⟨g, cap, cur, hv, hb, hh, rest⟩
  · exact .inl hn
  · exact .inr ⟨g, cap, cur, hv, hb, (hg.below.block g (Array.getElem?_eq_some_iff.1 hh).1).trans hh, rest⟩
theorem below_of_own {w w' : World} {B : Nat} {e : TypeId} {k : Nat} {v : Value} {n : Nat} {xs : List Value} (h : w.ownsRow B e k v n xs) (hB : B ≤ w.heap.size) (hg : w.grownBy w' v.ownBlock) : Below B w w' :=
  (Below.refl B w).grown hg hB (fun k hk => (h.lt k hk).1)
theorem own_formK {w : World} {B : Nat} {e : TypeId} {k : Nat} {v : Value} {n : Nat} {xs : List Value} (h : w.ownsRow B e k v n xs) : ∃ A c, v = .slice A n c := by
  rcases h.2 with ⟨rfl, rfl⟩ | ⟨g, cap, cur, rfl, _⟩
  · exact ⟨_, _, rfl⟩
  · exact ⟨_, _, rfl⟩
theorem Own2.pr {α : Type} {f g : α → Value} {w : World} {B : Nat} {e : TypeId} {A : Option Addr} {n c : Nat} {ps : List α} (h : Own2 w B e A n c (cel2 f g ps)) : Pr2 f g w w.heap.size A n ps := by
  have hl : ps.length = n := by
    have := h.1
    rw [cel2_len] at this
    omega
  refine ⟨hl, fun hn => ?_⟩
  obtain ⟨b, cap, hv, hb, hlt⟩ := World.ownsRow.form h hn
  injection hv with h4
  subst h4
  refine ⟨⟨b, 0, none⟩, rfl, hlt, fun j p hp => ?_⟩
  obtain ⟨g1, g2⟩ := cel2_at f g ps j p hp
  have hc := World.ownsRow.cells (g := b) h rfl
  have e1 := hc _ _ g1
  have e2 := hc _ _ g2
  have hadd : ∀ j, (⟨b, 0, none⟩ : Addr).add j = ⟨b, j, none⟩ := fun j => by unfold Addr.add; split <;> simp_all
  rw [hadd] at e1 e2 ⊢
  exact ⟨e1, e2⟩
/- parts of a rule in memory -/
abbrev sv1 (p : List UInt8 × List UInt8) : Value := .string ⟨p.1.toArray⟩
abbrev sv2 (p : List UInt8 × List UInt8) : Value := .string ⟨p.2.toArray⟩
namespace Rm
/- at which place a name is, or -1 -/
def Ixq (ps : List (List UInt8 × List UInt8)) (nm : List UInt8) (v : Int) : Prop := (v = -1 ∧ nm ∉ ps.map Prod.fst) ∨ (0 ≤ v ∧ nm ∈ ps.map Prod.fst)
end Rm
/- strings.Cut at = -/
namespace Rm
def cutE (l : List UInt8) : List UInt8 × List UInt8 × Bool := match splitEq l with
  | some p => (p.1, p.2, true)
  | none => (l, [], false)
theorem tw_eq (l : List UInt8) : l.takeWhile (· != 61) = l.takeWhile notEq := rfl
theorem cutE_in {l : List UInt8} (h : 61 ∈ l) : cutE l = (l.take (l.takeWhile (· != 61)).length, l.drop ((l.takeWhile (· != 61)).length + 1), true) := by
  induction l with
  | nil => cases h
  | cons b l ih =>
    by_cases e : b = 61
    · subst e; rfl
    · have h1 : 61 ∈ l := by rcases List.mem_cons.1 h with h | h; exact absurd h.symm e; exact h
      have i := ih h1
      have hb : notEq b = true := by simpa [notEq] using e
      have hb2 : (b != 61) = true := hb
      unfold cutE splitEq at i ⊢
      rw [List.dropWhile_cons, if_pos hb, List.takeWhile_cons (p := notEq), if_pos hb, List.takeWhile_cons, if_pos hb2]
      cases hd : l.dropWhile notEq with
      | nil => rw [hd] at i; simp at i
      | cons x v =>
        rw [hd] at i
        simp only [Prod.mk.injEq] at i
        simp only [List.length_cons, List.take_succ_cons, List.drop_succ_cons]
        rw [i.1, i.2.1]
theorem cutE_out {l : List UInt8} (h : 61 ∉ l) : cutE l = (l, [], false) := by
  have hd : l.dropWhile notEq = [] := by
    induction l with
    | nil => rfl
    | cons b l ih =>
      rw [List.mem_cons, not_or] at h
      have hb : notEq b = true := by simpa [notEq] using fun e : b = 61 => h.1 e.symm
      rw [List.dropWhile_cons, if_pos hb]
      exact ih h.2
  unfold cutE splitEq
  rw [hd]
end Rm
end Go.Proofs.YtmbmkldcedkbmaaGreat
namespace Go.Proofs.YtmbmkldcedkbmaaGreat
open Go.RowKit

theorem within_any (n a b : Int) (w : World) : Calls Tryz.prog 61 #[.int .i64 n, .int .i64 a, .int .i64 b] w fun e w' => e = .returned (.bool (decide (a ≤ n) && decide (n ≤ b))) ∧ w = w' := by
  rcases h1 : decide (a ≤ n)
  · go_enter Tryz.func61, Tryz.ntmps61
    go_wp2
    go_ret
    exact ⟨rfl, rfl⟩
  · rcases h2 : decide (n ≤ b)
    · go_enter Tryz.func61, Tryz.ntmps61
      go_wp2
      go_ret
      exact ⟨rfl, rfl⟩
    · go_enter Tryz.func61, Tryz.ntmps61
      go_wp2
      go_ret
      exact ⟨rfl, rfl⟩
/- what a list of numbers may hold, by its ends -/
def alw (lo hi n : Int) : Bool := decide (lo ≤ n) && decide (n ≤ hi) && (n != 0 || lo == 0)
theorem allows_any (nm : ByteArray) (p : Value) (lo hi n : Int) (w : World) (hp : ∃ a, p = .pointer a) :
    Calls Tryz.prog 96 #[.agg #[.string nm, p, .int .i64 lo, .int .i64 hi], .int .i64 n] w fun e w' => e = .returned (.bool (alw lo hi n)) ∧ Gr w w' := by
  obtain ⟨a, rfl⟩ := hp
  have cW := fun w => within_any n lo hi w
  unfold alw
  generalize (decide (lo ≤ n) && decide (n ≤ hi)) = q at *
  rcases q
  · go_enter Tryz.func96, Tryz.ntmps96
    go_wp2_with (go_at_call 61; refine (cW _).mono ?_; rintro e w' ⟨rfl, rfl⟩)
    go_ret
    exact ⟨rfl, (Gr.refl w).alloc _ _⟩
  · by_cases h1 : n = 0
    · by_cases h2 : lo = 0
      · subst h1 h2
        go_enter Tryz.func96, Tryz.ntmps96
        go_wp2_with (go_at_call 61; refine (cW _).mono ?_; rintro e w' ⟨rfl, rfl⟩)
        go_ret
        exact ⟨rfl, (Gr.refl w).alloc _ _⟩
      · have h3 : (lo == 0) = false := by simpa using h2
        subst h1
        rw [h3]
        go_enter Tryz.func96, Tryz.ntmps96
        go_wp2_with (go_at_call 61; refine (cW _).mono ?_; rintro e w' ⟨rfl, rfl⟩)
        go_ret
        exact ⟨rfl, (Gr.refl w).alloc _ _⟩
    · have h3 : (n != 0) = true := by simpa using h1
      rw [h3]
      go_enter Tryz.func96, Tryz.ntmps96
      go_wp2_with (go_at_call 61; refine (cW _).mono ?_; rintro e w' ⟨rfl, rfl⟩)
      go_ret
      exact ⟨rfl, (Gr.refl w).alloc _ _⟩
theorem allowsD_any (n d : Int) (w : World) : Calls Tryz.prog 66 #[.agg #[.int .i64 n, .int .i64 d]] w fun e w' => e = .returned (.bool (Rm.mayD (n, d))) ∧ Gr w w' := by
  have cW := fun w => within_any d 0 6 w
  have cV := fun w => within_any n (-53) 53 w
  have e0 : Rm.mayD (n, d) = ((decide (0 ≤ d) && decide (d ≤ 6)) && (decide (-53 ≤ n) && decide (n ≤ 53))) := by unfold Rm.mayD; simp only [Bool.and_assoc]
  rw [e0]
  clear e0
  generalize (decide (0 ≤ d) && decide (d ≤ 6)) = p at *
  generalize (decide (-53 ≤ n) && decide (n ≤ 53)) = q at *
  rcases p
  · go_enter Tryz.func66, Tryz.ntmps66
    go_wp2_with (go_at_call 61; refine (cW _).mono ?_; rintro e w' ⟨rfl, rfl⟩)
    go_ret
    exact ⟨rfl, (Gr.refl w).alloc _ _⟩
  · go_enter Tryz.func66, Tryz.ntmps66
    go_wp2_with fail
    refine (cW _).mono ?_
    rintro e w' ⟨rfl, rfl⟩
    go_wp2_with fail
    refine (cV _).mono ?_
    rintro e w' ⟨rfl, rfl⟩
    go_wp2
    go_ret
    exact ⟨rfl, (Gr.refl w).alloc _ _⟩
theorem hasNth_any (n d : Int) (w : World) : Calls Tryz.prog 100 #[.agg #[.int .i64 n, .int .i64 d]] w fun e w' => e = .returned (.bool (n != 0)) ∧ Gr w w' := by
  rcases h : (n != 0)
  · go_enter Tryz.func100, Tryz.ntmps100
    go_wp2
    go_ret
    exact ⟨rfl, (Gr.refl w).alloc _ _⟩
  · go_enter Tryz.func100, Tryz.ntmps100
    go_wp2
    go_ret
    exact ⟨rfl, (Gr.refl w).alloc _ _⟩
end Go.Proofs.YtmbmkldcedkbmaaGreat
namespace Go.Proofs.YtmbmkldcedkbmaaGreat
open Go.RowKit

namespace Rm
structure Sl where
  A : Option Addr
  n : Nat
  c : Nat
/- the values of a rule: what it says, and where its lists lie -/
structure Rv where
  r : Ru
  z : ByteArray
  sec : Sl
  min : Sl
  hour : Sl
  day : Sl
  mday : Sl
  yday : Sl
  week : Sl
  month : Sl
  pos : Sl
def Ru.ls (r : Ru) : Nat → List Int
  | 0 => r.sec | 1 => r.min | 2 => r.hour | 3 => r.mday | 4 => r.yday | 5 => r.week | 6 => r.month | _ => r.pos
def Rv.sl (V : Rv) : Nat → Sl
  | 0 => V.sec | 1 => V.min | 2 => V.hour | 3 => V.mday | 4 => V.yday | 5 => V.week | 6 => V.month | _ => V.pos
def off : Nat → Nat
  | 0 => 8 | 1 => 9 | 2 => 10 | 3 => 12 | 4 => 13 | 5 => 14 | 6 => 15 | _ => 16
def lo : Nat → Int
  | 0 => 0 | 1 => 0 | 2 => 0 | 3 => -31 | 4 => -366 | 5 => -53 | 6 => 1 | _ => -366
def hi : Nat → Int
  | 0 => 59 | 1 => 59 | 2 => 23 | 3 => 31 | 4 => 366 | 5 => 53 | 6 => 12 | _ => 366
def nmL : Nat → List UInt8
  | 0 => nBYSECOND | 1 => nBYMINUTE | 2 => nBYHOUR | 3 => nBYMONTHDAY | 4 => nBYYEARDAY | 5 => nBYWEEKNO | 6 => nBYMONTH | _ => nBYSETPOS
theorem may_alw : ∀ i, i < 8 → ∀ n : Int, alw (lo i) (hi i) n = may i n := by
  intro i hi8 n
  rcases (show i = 0 ∨ i = 1 ∨ i = 2 ∨ i = 3 ∨ i = 4 ∨ i = 5 ∨ i = 6 ∨ i = 7 by omega) with rfl | rfl | rfl | rfl | rfl | rfl | rfl | rfl <;>
    (unfold alw may lo hi; rw [Bool.eq_iff_iff]; simp; try omega)
abbrev Sl.v (s : Sl) : Value := .slice s.A s.n s.c
abbrev Rv.val (V : Rv) : Array Value := #[.int .i64 V.r.freq, .int .i64 V.r.ivl, .int .i64 V.r.cnt, .int .i64 V.r.uk, .int .i64 V.r.ua, .string V.z, .bool V.r.has, .int .i64 V.r.st,
  .slice V.sec.A V.sec.n V.sec.c, .slice V.min.A V.min.n V.min.c, .slice V.hour.A V.hour.n V.hour.c, .slice V.day.A V.day.n V.day.c, .slice V.mday.A V.mday.n V.mday.c, .slice V.yday.A V.yday.n V.yday.c,
  .slice V.week.A V.week.n V.week.c, .slice V.month.A V.month.n V.month.c, .slice V.pos.A V.pos.n V.pos.c]
end Rm
/- a list of numbers that is read -/
def Nums (w : World) (B : Nat) (A : Option Addr) (n : Nat) (xs : List Int) : Prop :=
  xs.length = n ∧ (0 < n → ∃ ad : Addr, A = some ad ∧ ad.block < B ∧ ∀ j u, xs[j]? = some u → w.cell? (ad.add j) = some (.int .i64 u))
theorem Nums.nil (w : World) (B : Nat) (A : Option Addr) : Nums w B A 0 [] := ⟨rfl, fun h => absurd h (by omega)⟩
theorem Nums.at_ {w : World} {B : Nat} {A : Option Addr} {n : Nat} {xs : List Int} (h : Nums w B A n xs) {k : Nat} (hk : k < n) :
    ∃ ad : Addr, ∃ hk' : k < xs.length, A = some ad ∧ ad.block < B ∧ w.cell? (ad.add k) = some (.int .i64 xs[k]) := by
  obtain ⟨ad, e, hb, hc⟩ := h.2 (by omega)
  have hl : k < xs.length := by rw [h.1]; exact hk
  exact ⟨ad, hl, e, hb, hc k _ (List.getElem?_eq_getElem hl)⟩
theorem Nums.keep {w w' : World} {B : Nat} {A : Option Addr} {n : Nat} {xs : List Int} (h : Nums w B A n xs) (hb : Below B w w') : Nums w' B A n xs :=
  ⟨h.1, fun hn => by
    obtain ⟨ad, e, hbl, hc⟩ := h.2 hn
    exact ⟨ad, e, hbl, fun j u hu => (hb.cell (by rw [add_block]; exact hbl)).trans (hc j u hu)⟩⟩
theorem Nums.more {w : World} {B B' : Nat} {A : Option Addr} {n : Nat} {xs : List Int} (h : Nums w B A n xs) (hB : B ≤ B') : Nums w B' A n xs :=
  ⟨h.1, fun hn => by
    obtain ⟨ad, e, hbl, hc⟩ := h.2 hn
    exact ⟨ad, e, by omega, hc⟩⟩
theorem Nums.gr {w w' : World} {A : Option Addr} {n : Nat} {xs : List Int} (h : Nums w w.heap.size A n xs) (hg : Gr w w') : Nums w' w'.heap.size A n xs := (h.keep hg.below).more hg.lt
/- weekdays: two cells each -/
abbrev dv1 (p : Int × Int) : Value := .int .i64 p.1
abbrev dv2 (p : Int × Int) : Value := .int .i64 p.2
abbrev Days (w : World) (B : Nat) (A : Option Addr) (n : Nat) (ps : List (Int × Int)) : Prop := Pr2 dv1 dv2 w B A n ps
/- a rule that is read: its lists below B -/
structure RuM (w : World) (B : Nat) (V : Rm.Rv) : Prop where
  z : V.z.data.toList = V.r.uz
  l : ∀ i, i < 8 → Nums w B (V.sl i).A (V.sl i).n (V.r.ls i)
  d : Days w B V.day.A V.day.n V.r.day
theorem RuM.keep {w w' : World} {B : Nat} {V : Rm.Rv} (h : RuM w B V) (hb : Below B w w') : RuM w' B V := ⟨h.z, fun i hi => (h.l i hi).keep hb, h.d.keep hb⟩
theorem RuM.more {w : World} {B B' : Nat} {V : Rm.Rv} (h : RuM w B V) (hB : B ≤ B') : RuM w B' V := ⟨h.z, fun i hi => (h.l i hi).more hB, h.d.more hB⟩
theorem RuM.gr {w w' : World} {V : Rm.Rv} (h : RuM w w.heap.size V) (hg : Gr w w') : RuM w' w'.heap.size V := (h.keep hg.below).more hg.lt
/- the box of a rule -/
structure RBx (w : World) (b : Nat) (V : Rm.Rv) : Prop where
  c0 : w.cell? ⟨b, 0, none⟩ = some (.int .i64 V.r.freq)
  c1 : w.cell? ⟨b, 1, none⟩ = some (.int .i64 V.r.ivl)
  c2 : w.cell? ⟨b, 2, none⟩ = some (.int .i64 V.r.cnt)
  c3 : w.cell? ⟨b, 3, none⟩ = some (.int .i64 V.r.uk)
  c4 : w.cell? ⟨b, 4, none⟩ = some (.int .i64 V.r.ua)
  c5 : w.cell? ⟨b, 5, none⟩ = some (.string V.z)
  c6 : w.cell? ⟨b, 6, none⟩ = some (.bool V.r.has)
  c7 : w.cell? ⟨b, 7, none⟩ = some (.int .i64 V.r.st)
  c8 : w.cell? ⟨b, 8, none⟩ = some (.slice V.sec.A V.sec.n V.sec.c)
  c9 : w.cell? ⟨b, 9, none⟩ = some (.slice V.min.A V.min.n V.min.c)
  c10 : w.cell? ⟨b, 10, none⟩ = some (.slice V.hour.A V.hour.n V.hour.c)
  c11 : w.cell? ⟨b, 11, none⟩ = some (.slice V.day.A V.day.n V.day.c)
  c12 : w.cell? ⟨b, 12, none⟩ = some (.slice V.mday.A V.mday.n V.mday.c)
  c13 : w.cell? ⟨b, 13, none⟩ = some (.slice V.yday.A V.yday.n V.yday.c)
  c14 : w.cell? ⟨b, 14, none⟩ = some (.slice V.week.A V.week.n V.week.c)
  c15 : w.cell? ⟨b, 15, none⟩ = some (.slice V.month.A V.month.n V.month.c)
  c16 : w.cell? ⟨b, 16, none⟩ = some (.slice V.pos.A V.pos.n V.pos.c)
theorem RBx.now (w : World) (V : Rm.Rv) (t : TypeId) : RBx (w.alloc (.cells V.val t)) w.heap.size V := by
  constructor <;> simp
theorem RBx.keep {w w' : World} {b B : Nat} {V : Rm.Rv} (h : RBx w b V) (hg : Below B w w') (hb : b < B) : RBx w' b V := by
  have k : ∀ {o v}, w.cell? ⟨b, o, none⟩ = some v → w'.cell? ⟨b, o, none⟩ = some v := fun h => (hg.cell hb).trans h
  exact ⟨k h.c0, k h.c1, k h.c2, k h.c3, k h.c4, k h.c5, k h.c6, k h.c7, k h.c8, k h.c9, k h.c10, k h.c11, k h.c12, k h.c13, k h.c14, k h.c15, k h.c16⟩
theorem RBx.gr {w w' : World} {b : Nat} {V : Rm.Rv} (h : RBx w b V) (hg : Gr w w') : RBx w' b V := h.keep hg.below (World.block_lt_of_cell? _ _ h.c0)
theorem RBx.at_ {w : World} {b : Nat} {V : Rm.Rv} (h : RBx w b V) {i : Nat} (hi : i < 8) : w.cell? ⟨b, Rm.off i, none⟩ = some (.slice (V.sl i).A (V.sl i).n (V.sl i).c) := by
  rcases (show i = 0 ∨ i = 1 ∨ i = 2 ∨ i = 3 ∨ i = 4 ∨ i = 5 ∨ i = 6 ∨ i = 7 by omega) with rfl | rfl | rfl | rfl | rfl | rfl | rfl | rfl
  · exact h.c8
  · exact h.c9
  · exact h.c10
  · exact h.c12
  · exact h.c13
  · exact h.c14
  · exact h.c15
  · exact h.c16
namespace Rm
/- the eight lists, as numberLists tells them -/
def nlArr (b : Nat) : Array Value := #[
  .string ⟨#[66, 89, 83, 69, 67, 79, 78, 68]⟩, .pointer (some ⟨b, 8, none⟩), .int .i64 0, .int .i64 59,
  .string ⟨#[66, 89, 77, 73, 78, 85, 84, 69]⟩, .pointer (some ⟨b, 9, none⟩), .int .i64 0, .int .i64 59,
  .string ⟨#[66, 89, 72, 79, 85, 82]⟩, .pointer (some ⟨b, 10, none⟩), .int .i64 0, .int .i64 23,
  .string ⟨#[66, 89, 77, 79, 78, 84, 72, 68, 65, 89]⟩, .pointer (some ⟨b, 12, none⟩), .int .i64 (-31), .int .i64 31,
  .string ⟨#[66, 89, 89, 69, 65, 82, 68, 65, 89]⟩, .pointer (some ⟨b, 13, none⟩), .int .i64 (-366), .int .i64 366,
  .string ⟨#[66, 89, 87, 69, 69, 75, 78, 79]⟩, .pointer (some ⟨b, 14, none⟩), .int .i64 (-53), .int .i64 53,
  .string ⟨#[66, 89, 77, 79, 78, 84, 72]⟩, .pointer (some ⟨b, 15, none⟩), .int .i64 1, .int .i64 12,
  .string ⟨#[66, 89, 83, 69, 84, 80, 79, 83]⟩, .pointer (some ⟨b, 16, none⟩), .int .i64 (-366), .int .i64 366]
theorem nl_at (b i : Nat) (hi8 : i < 8) : (nlArr b).extract (i * 4) (i * 4 + 4) = #[.string ⟨(nmL i).toArray⟩, .pointer (some ⟨b, off i, none⟩), .int .i64 (lo i), .int .i64 (hi i)] := by
  rcases (show i = 0 ∨ i = 1 ∨ i = 2 ∨ i = 3 ∨ i = 4 ∨ i = 5 ∨ i = 6 ∨ i = 7 by omega) with rfl | rfl | rfl | rfl | rfl | rfl | rfl | rfl <;> rfl
end Rm
theorem nl_ix (w : World) (b i : Nat) (hi8 : i < 8) : Sem.run Tryz.prog (Instr.index 100 (.agg (Rm.nlArr b)) (.int .i64 (i : Int))) w = .ok (.agg #[.string ⟨(Rm.nmL i).toArray⟩, .pointer (some ⟨b, Rm.off i, none⟩), .int .i64 (Rm.lo i), .int .i64 (Rm.hi i)]) w := by
  rw [run_ixA w (Rm.nlArr b) i 4 Tryz.underlying100 (Tryz.isAgg99 w) (Tryz.sizeOf99 w) hi8, Rm.nl_at b i hi8]
end Go.Proofs.YtmbmkldcedkbmaaGreat
namespace Go.Proofs.YtmbmkldcedkbmaaGreat
open Go.RowKit

structure After (W : World) where
  wd : World
  gr : Gr W wd
instance afterNonempty (W : World) : Nonempty (After W) := ⟨⟨W, Gr.refl W⟩⟩
theorem wp_region_after {id : Nat} {Q : Exit → Act → World → Prop} {a : Act} {W : World} {l : List Oper} (hm : Tryz.prog.follows .mixedOrders = true) (hB : Region.lexB .any l.toArray = true)
    (h : wpQuiet Tryz.prog l.toArray (fun w' => ∃ u : After W, w' = u.wd) (fun a' => ∀ w', (∃ u : After W, w' = u.wd) → Q .normal a' w') l a) : (Code.region id l.toArray true).wp Tryz.prog Q a W :=
  wp_region_quiet (C := fun w' => ∃ u : After W, w' = u.wd) hm hB ⟨⟨_, (Gr.refl W).drew⟩, rfl⟩ (by simpa using h)
theorem qafter {f : FuncId} {args : Array Value} {W : World} {u : After W} {v : Value} (h : Calls Tryz.prog f args u.wd fun e w' => e = .returned v ∧ Gr u.wd w') :
    Calls Tryz.prog f args u.wd fun e w'' => e = .returned v ∧ ∃ u' : After W, w'' = u'.wd := h.mono fun _ w' ⟨he, hg⟩ => ⟨he, ⟨w', u.gr.trans hg⟩, rfl⟩
theorem after_cell {W : World} {p : Addr} {v : Value} (h : W.cell? p = some v) (u : After W) : u.wd.cell? p = some v := (u.gr.below.cell (World.block_lt_of_cell? _ _ h)).trans h
end Go.Proofs.YtmbmkldcedkbmaaGreat
namespace Go.Proofs.YtmbmkldcedkbmaaGreat
open Go.RowKit

end Go.Proofs.YtmbmkldcedkbmaaGreat
