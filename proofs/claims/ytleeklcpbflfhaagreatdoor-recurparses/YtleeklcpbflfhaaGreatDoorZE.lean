/- The texts RcMem, RcTab, RcTwo, RcFn, RcNum, RcAft, RcUp, RcEq, one behind the other. -/
import Derived.Test.YtleeklcpbflfhaaGreatDoorChecked
import Derived.Test.YtleeklcpbflfhaaGreatDoorZA
import Derived.Lib.AppendStr
import Derived.Lib.FrozenHead
import Derived.Lib.Strings
import Derived.Lib.IndexBytes
import Derived.Laws.OwnMore
import Derived.Laws.IdiomStrings
import Derived.OwnWalk
import Derived.WalkSpells
import Derived.Deep.LoopGhost
import Derived.Deep.AppendLies
import Derived.Deep.AppendSrc
import Derived.Deep.MidRow
import Derived.Test.YtleeklcpbflfhaaGreatDoorZD
import Derived.Test.YtleeklcpbflfhaaGreatDoorZShelf3
import Derived.Lib.AppendZerosOnto
import Derived.BigQuiet
import Derived.Test.YtleeklcpbflfhaaGreatDoorZShelf
import Derived.BigRegion
import Derived.Deep.RegionHeld3
import Derived.Laws.ResultCell
namespace Go.Proofs.YtleeklcpbflfhaaGreatDoor
open Go.RowKit

theorem Gr.allocO {w w' : World} (h : Gr w w') (o : Obj) : Gr w (w'.alloc o) := ⟨h.below.alloc h.below.size _⟩
theorem mk_data (s : ByteArray) : (⟨s.data.toList.toArray⟩ : ByteArray) = s := rfl
theorem str_data {s : ByteArray} {l : List UInt8} (h : s.data.toList = l) : s = ⟨l.toArray⟩ := by rw [← h]
theorem extract_to (s : ByteArray) (n : Nat) : s.extract 0 n = ⟨(s.data.toList.take n).toArray⟩ := str_data (by simp [ByteArray.data_extract])
theorem extract_from (s : ByteArray) (n : Nat) : s.extract n s.size = ⟨(s.data.toList.drop n).toArray⟩ := str_data (by
  have : s.size = s.data.toList.length := Lib.size_eq s
  simp only [ByteArray.data_extract, Array.toList_extract, List.extract_eq_take_drop]
  exact List.take_of_length_le (by rw [List.length_drop]; omega))
namespace Fd
theorem idx_in (c : UInt8) : ∀ l : List UInt8, c ∈ l → Lib.indexByte l c = ((l.takeWhile (· != c)).length : Int)
  | [], h => by cases h
  | b :: l, h => by
    unfold Lib.indexByte
    by_cases e : b = c
    · subst e; simp
    · have h1 : c ∈ l := by rcases List.mem_cons.1 h with h | h; exact absurd h.symm e; exact h
      have i := idx_in c l h1
      rw [i]
      have : ((((l.takeWhile (· != c)).length : Int)) == -1) = false := by rw [beq_eq_false_iff_ne]; omega
      simp [e, this]
theorem idx_out (c : UInt8) : ∀ l : List UInt8, c ∉ l → Lib.indexByte l c = -1
  | [], _ => rfl
  | b :: l, h => by
    unfold Lib.indexByte
    simp only [List.mem_cons, not_or] at h
    rw [idx_out c l h.2]
    have : (b == c) = false := by rw [beq_eq_false_iff_ne]; exact fun e => h.1 e.symm
    simp [this]
theorem idx_has (c : UInt8) (l : List UInt8) : decide (0 ≤ Lib.indexByte l c) = l.contains c := by
  by_cases h : c ∈ l
  · rw [idx_in c l h]; simp [h]
  · rw [idx_out c l h]; simp [h]
end Fd
/- the slice (A, n, c) owns the cells xs, in a block from B on -/
def OwnV (w : World) (B : Nat) (e : TypeId) (A : Option Addr) (n c : Nat) (xs : List Value) : Prop := w.ownsRow B e 1 (.slice A n c) n xs
/- bytes and texts as cells -/
def bc (l : List UInt8) : List Value := l.map fun b => Value.int .u8 (b.toNat : Int)
def sc (ls : List (List UInt8)) : List Value := ls.map fun l => Value.string ⟨l.toArray⟩
theorem bc_append (a b : List UInt8) : bc (a ++ b) = bc a ++ bc b := by simp [bc]
theorem sc_append (a b : List (List UInt8)) : sc (a ++ b) = sc a ++ sc b := by simp [sc]
theorem size_mk (l : List UInt8) : (ByteArray.mk l.toArray).size = l.length := by simp [ByteArray.size]
theorem OwnV.nil (w : World) (B : Nat) (e : TypeId) : OwnV w B e none 0 0 [] := World.ownsRow_nil _ _ _ _
theorem OwnV.len {w : World} {B : Nat} {e : TypeId} {A : Option Addr} {n c : Nat} {xs : List Value} (h : OwnV w B e A n c xs) : xs.length = n := by simpa using h.1
theorem OwnV.gr {w w' : World} {B : Nat} {e : TypeId} {A : Option Addr} {n c : Nat} {xs : List Value} (h : OwnV w B e A n c xs) (hg : Gr w w') : OwnV w' B e A n c xs := by
  refine ⟨h.1, ?_⟩
  rcases h.2 with hn | ⟨g, cap, cur, hv, hb, hh, rest⟩
  · exact .inl hn
  · exact .inr ⟨g, cap, cur, hv, hb, (hg.below.block g (Array.getElem?_eq_some_iff.1 hh).1).trans hh, rest⟩
theorem OwnV.drew {w : World} {B : Nat} {e : TypeId} {A : Option Addr} {n c : Nat} {xs : List Value} (h : OwnV w B e A n c xs) : OwnV w.drew B e A n c xs := h
theorem OwnV.cap {w : World} {B : Nat} {e : TypeId} {A : Option Addr} {n c : Nat} {xs : List Value} (h : OwnV w B e A n c xs) : n ≤ c := by
  rcases h.2 with ⟨hn, rfl⟩ | ⟨g, cap, cur, hv, _, _, hc, _⟩
  · exact Nat.zero_le _
  · injection hv with _ _ h3; omega
theorem OwnV.cells {w : World} {B : Nat} {e : TypeId} {A : Option Addr} {n c : Nat} {xs : List Value} (h : OwnV w B e A n c xs) (hn : 0 < n) :
    ∃ g, A = some ⟨g, 0, none⟩ ∧ B ≤ g ∧ g < w.heap.size ∧ ∀ j u, xs[j]? = some u → w.cell? ((⟨g, 0, none⟩ : Addr).add j) = some u := by
  have hcell := fun g => World.ownsRow.cells (g := g) h
  rcases h.2 with ⟨_, rfl⟩ | ⟨g, cap, cur, hv, hb, hh, _⟩
  · omega
  · injection hv with h1
    subst h1
    exact ⟨g, rfl, hb, (Array.getElem?_eq_some_iff.1 hh).1, hcell g rfl⟩
/- growth of a row that the call owns, over Below -/
theorem below_of_grown {w w' : World} {B : Nat} {e : TypeId} {v : Value} {n : Nat} {xs : List Value} (h : w.ownsRow B e 1 v n xs) (hB : B ≤ w.heap.size) (hg : w.grownBy w' v.ownBlock) : Below B w w' :=
  (Below.refl B w).grown hg hB (fun k hk => (h.lt k hk).1)
theorem own_form {w : World} {B : Nat} {e : TypeId} {v : Value} {n : Nat} {xs : List Value} (h : w.ownsRow B e 1 v n xs) : ∃ A c, v = .slice A n c := by
  rcases h.2 with ⟨rfl, rfl⟩ | ⟨g, cap, cur, rfl, _⟩
  · exact ⟨_, _, rfl⟩
  · exact ⟨_, _, rfl⟩
theorem info_u8 : (Tryz.prog.info? 5).map (fun i => (i.zero, i.size, i.bytes)) = some (some (.int .u8 0), 1, 1) := by kernel_rfl
theorem info_str : (Tryz.prog.info? 9).map (fun i => (i.zero, i.size, i.bytes)) = some (some (.string ⟨#[]⟩), 1, 16) := by kernel_rfl
theorem info_int : (Tryz.prog.info? 3).map (fun i => (i.zero, i.size, i.bytes)) = some (some (.int .i64 0), 1, 8) := by kernel_rfl
/- append(out, text...) -/
theorem ap_text {ops : Array Oper} {rest : List Oper} {o : Oper} {a : Act} {Q : Exit → Act → World → Prop} (w : World) (hgd : o.guard = none) (sl x : Operand)
    (ho : o.op = .call { callee := .builtin .append, args := #[sl, x], argTypes := #[79, 9] })
    (B : Nat) (A : Option Addr) (n c : Nat) (l : List UInt8) (hs : a.eval sl = .slice A n c) (hown : OwnV w B 5 A n c (bc l)) (s : ByteArray) (hx : a.eval x = .string s)
    (hlen : n + s.size ≤ 1000000) (hB : B ≤ w.heap.size)
    (h : ∀ A' c' w', OwnV w' B 5 A' (n + s.size) c' (bc (l ++ s.data.toList)) → Below B w w' → wpList Tryz.prog ops Q rest (a.put o.dst (.slice A' (n + s.size) c')) w') : wpList Tryz.prog ops Q (o :: rest) a w := by
  obtain ⟨i0, hi, hz0, hz1, hz2⟩ := info_parts info_u8
  refine Lib.wpList_append_own_string w hgd sl x 79 9 ho B 5 i0 Tryz.underlying79 Tryz.underlying9 hi hz0 hz1 hz2 _ n (bc l) hs hown s hx (by unfold maxLen; omega) (by omega) hB ?_
  intro v' w' h1 h2 _
  obtain ⟨A', c', rfl⟩ := own_form h1
  refine h A' c' w' ?_ (below_of_grown hown hB h2)
  rw [bc_append]
  exact h1
/- append(out, elements..), the elements laid in a new block first -/
theorem ap_lit {ops : Array Oper} {rest : List Oper} {o : Oper} {a : Act} {Q : Exit → Act → World → Prop} (w : World) (hgd : o.guard = none) (sl x : Operand) (t e : TypeId) (z : Value) (bytes : Nat)
    (ht : Tryz.prog.underlying t = some (.slice e)) (hinfo : (Tryz.prog.info? e).map (fun i => (i.zero, i.size, i.bytes)) = some (some z, 1, bytes)) (hzs : z.cells.size = 1) (hby : bytes ≤ 16)
    (ho : o.op = .call { callee := .builtin .append, args := #[sl, x], argTypes := #[t, t] })
    (B : Nat) (A : Option Addr) (n c : Nat) (xs news : List Value) (hs : a.eval sl = .slice A n c) (hown : OwnV w B e A n c xs) (m c2 : Nat) (hx : a.eval x = .slice (some ⟨w.heap.size, 0, none⟩) m c2)
    (hm : news.length = m) (h1 : ∀ u ∈ news, u.oneCell' = true) (hlen : n + m ≤ 1000000) (hB : B ≤ w.heap.size)
    (h : ∀ A' c' w', OwnV w' B e A' (n + m) c' (xs ++ news) → Below B w w' → wpList Tryz.prog ops Q rest (a.put o.dst (.slice A' (n + m) c')) w') : wpList Tryz.prog ops Q (o :: rest) a (w.alloc (.cells news.toArray e)) := by
  obtain ⟨i0, hi, hz0, hz1, hz2⟩ := info_parts hinfo
  have hown2 : (w.alloc (.cells news.toArray e)).ownsRow B e 1 (.slice A n c) n xs := World.ownsRow.alloc hown _
  refine wpList_append_own _ hgd sl x t ho B e i0 z 1 bytes ht hi hz0 hz1 hz2 hzs (by omega) _ n xs hs hown2 ⟨w.heap.size, 0, none⟩ m c2 news hx (by omega) ?_ h1 (by unfold maxLen; omega) ?_ ?_ ?_
  · intro j u hu
    have hadd : (⟨w.heap.size, 0, none⟩ : Addr).add j = ⟨w.heap.size, j, none⟩ := by unfold Addr.add; split <;> simp_all
    rw [hadd, cell_of_row _ w.heap.size j news.toArray e (0, 0) (heap_alloc_new w _)]
    simpa using hu
  · have : (n + m) * bytes ≤ 1000000 * 16 := Nat.mul_le_mul hlen hby
    omega
  · have : (w.alloc (.cells news.toArray e)).heap.size = w.heap.size + 1 := by simp
    omega
  · intro v' w' g1 g2 _
    obtain ⟨A', c', rfl⟩ := own_form g1
    refine h A' c' w' g1 ?_
    have hb : Below B (w.alloc (.cells news.toArray e)) w' := below_of_grown hown2 (by have : (w.alloc (.cells news.toArray e)).heap.size = w.heap.size + 1 := by simp
                                                                                       omega) g2
    exact ((Below.refl B w).alloc hB _).trans hb
/- string(bytes) -/
theorem conv_back {w : World} {B : Nat} {A : Option Addr} {n c : Nat} {l : List UInt8} (h : OwnV w B 5 A n c (bc l)) : (convert 79 9 (.slice A n c)).run Tryz.prog w = .ok (.string ⟨l.toArray⟩) w := by
  have hl : l.length = n := by simpa [bc] using h.len
  rcases Nat.eq_zero_or_pos n with h0 | h0
  · subst h0
    have hl0 : l = [] := List.eq_nil_of_length_eq_zero hl
    subst hl0
    rcases A with _ | ad
    · rw [run_convert_bytes_string w 79 9 5 none 0 c Tryz.underlying79 Tryz.underlying5 Tryz.underlying9]
      rfl
    · exact run_convert_bytes_back w 79 9 5 ad c [] Tryz.underlying79 Tryz.underlying5 Tryz.underlying9 (fun j hj => by simp at hj)
  · obtain ⟨g, rfl, _, _, hc⟩ := h.cells h0
    subst hl
    refine run_convert_bytes_back w 79 9 5 ⟨g, 0, none⟩ c l Tryz.underlying79 Tryz.underlying5 Tryz.underlying9 (fun j hj => hc j _ ?_)
    unfold bc
    rw [List.getElem?_map, List.getElem?_eq_getElem hj]
    rfl
/- a list of texts that is read -/
def Strs (w : World) (B : Nat) (A : Option Addr) (n : Nat) (ls : List (List UInt8)) : Prop :=
  ls.length = n ∧ (0 < n → ∃ ad : Addr, A = some ad ∧ ad.block < B ∧ ∀ j u, ls[j]? = some u → w.cell? (ad.add j) = some (.string ⟨u.toArray⟩))
theorem add_block (a : Addr) (n : Nat) : (a.add n).block = a.block := by unfold Addr.add; split <;> rfl
theorem add_add (a : Addr) (i j : Nat) : (a.add i).add j = a.add (i + j) := by
  unfold Addr.add
  by_cases hi : i = 0 <;> by_cases hj : j = 0 <;> simp [hi, hj, Nat.add_assoc]
theorem Strs.keep {w w' : World} {B : Nat} {A : Option Addr} {n : Nat} {ls : List (List UInt8)} (h : Strs w B A n ls) (hb : Below B w w') : Strs w' B A n ls :=
  ⟨h.1, fun hn => by
    obtain ⟨ad, e, hbl, hc⟩ := h.2 hn
    exact ⟨ad, e, hbl, fun j u hu => (hb.cell (by rw [add_block]; exact hbl)).trans (hc j u hu)⟩⟩
theorem Strs.more {w : World} {B B' : Nat} {A : Option Addr} {n : Nat} {ls : List (List UInt8)} (h : Strs w B A n ls) (hB : B ≤ B') : Strs w B' A n ls :=
  ⟨h.1, fun hn => by
    obtain ⟨ad, e, hbl, hc⟩ := h.2 hn
    exact ⟨ad, e, by omega, hc⟩⟩
theorem Strs.of_own {w : World} {B : Nat} {A : Option Addr} {n c : Nat} {ls : List (List UInt8)} (h : OwnV w B 9 A n c (sc ls)) : Strs w w.heap.size A n ls := by
  have hl : ls.length = n := by simpa [sc] using h.len
  refine ⟨hl, fun hn => ?_⟩
  obtain ⟨g, rfl, _, hlt, hc⟩ := h.cells hn
  exact ⟨⟨g, 0, none⟩, rfl, hlt, fun j u hu => hc j _ (by unfold sc; rw [List.getElem?_map, hu]; rfl)⟩
theorem Strs.nil (w : World) (B : Nat) (A : Option Addr) : Strs w B A 0 [] := ⟨rfl, fun h => absurd h (by omega)⟩
theorem Strs.at_ {w : World} {B : Nat} {A : Option Addr} {n : Nat} {ls : List (List UInt8)} (h : Strs w B A n ls) {k : Nat} (hk : k < n) :
    ∃ ad : Addr, ∃ hk' : k < ls.length, A = some ad ∧ ad.block < B ∧ w.cell? (ad.add k) = some (.string ⟨ls[k].toArray⟩) := by
  obtain ⟨ad, e, hb, hc⟩ := h.2 (by omega)
  have hl : k < ls.length := by rw [h.1]; exact hk
  exact ⟨ad, hl, e, hb, hc k _ (List.getElem?_eq_getElem hl)⟩
theorem Gr.low {w w' : World} {B : Nat} (h : Gr w w') (hB : B ≤ w.heap.size) : Below B w w' := h.below.mono hB
/- single bytes of a text -/
theorem at_toNat (s : ByteArray) (i : Nat) (h : i < s.size) : s.data.toList[i]? = some s[i] := by
  have h2 : i < s.data.toList.length := by rw [← Lib.size_eq]; exact h
  rw [List.getElem?_eq_getElem h2]; rfl
theorem byte_eq {b : UInt8} {n : Nat} (hn : n < 256) : ((b.toNat : Int) == (n : Int)) = true ↔ b = UInt8.ofNat n := by
  constructor
  · intro h
    have h2 : (b.toNat : Int) = n := by simpa only [beq_iff_eq] using h
    have : b.toNat = n := by omega
    apply UInt8.toNat_inj.1
    rw [this]
    simp; omega
  · rintro rfl
    simp; omega
/- two rows of different elements side by side -/
theorem cat_data (a b : ByteArray) : (a ++ b).data.toList = a.data.toList ++ b.data.toList := by rw [ByteArray.data_append, Array.toList_append]
theorem own_other {w w' : World} {B : Nat} {e e2 : TypeId} {v : Value} {n : Nat} {xs : List Value} {A2 : Option Addr} {n2 c2 : Nat} {ys : List Value} (h : w.ownsRow B e 1 v n xs) (h2 : OwnV w B e2 A2 n2 c2 ys) (hne : e2 ≠ e)
    (hg : w.grownBy w' v.ownBlock) : OwnV w' B e2 A2 n2 c2 ys := by
  refine World.ownsRow.kept h2 hg ?_
  rcases h2.2 with ⟨hn, _⟩ | ⟨g2, cap2, cur2, hv2, _, hh2, _⟩
  · left; injection hn with h1; subst h1; rfl
  · right
    intro e3
    rcases h.2 with ⟨rfl, _⟩ | ⟨g, cap, cur, rfl, _, hh, _⟩
    · rw [hv2] at e3; simp [Value.ownBlock] at e3
    · rw [hv2] at e3
      have : g2 = g := by simpa [Value.ownBlock] using e3
      subst this
      rw [hh] at hh2
      injection hh2 with h4
      injection h4 with _ h5
      exact hne h5.symm
/- append(out, elements..), beside a row of another kind -/
theorem ap_two {ops : Array Oper} {rest : List Oper} {o : Oper} {a : Act} {Q : Exit → Act → World → Prop} (w : World) (hgd : o.guard = none) (sl x : Operand) (t e : TypeId) (z : Value) (bytes : Nat)
    (ht : Tryz.prog.underlying t = some (.slice e)) (hinfo : (Tryz.prog.info? e).map (fun i => (i.zero, i.size, i.bytes)) = some (some z, 1, bytes)) (hzs : z.cells.size = 1) (hby : bytes ≤ 16)
    (ho : o.op = .call { callee := .builtin .append, args := #[sl, x], argTypes := #[t, t] })
    (B : Nat) (A : Option Addr) (n c : Nat) (xs news : List Value) (hs : a.eval sl = .slice A n c) (hown : OwnV w B e A n c xs) (m c2 : Nat) (hx : a.eval x = .slice (some ⟨w.heap.size, 0, none⟩) m c2)
    (hm : news.length = m) (h1 : ∀ u ∈ news, u.oneCell' = true) (hlen : n + m ≤ 1000000) (hB : B ≤ w.heap.size) (e2 : TypeId) (A2 : Option Addr) (n2 c3 : Nat) (ys : List Value) (h2 : OwnV w B e2 A2 n2 c3 ys) (hne : e2 ≠ e)
    (h : ∀ A' c' w', OwnV w' B e A' (n + m) c' (xs ++ news) → Below B w w' → OwnV w' B e2 A2 n2 c3 ys → wpList Tryz.prog ops Q rest (a.put o.dst (.slice A' (n + m) c')) w') : wpList Tryz.prog ops Q (o :: rest) a (w.alloc (.cells news.toArray e)) := by
  obtain ⟨i0, hi, hz0, hz1, hz2⟩ := info_parts hinfo
  have hown2 : (w.alloc (.cells news.toArray e)).ownsRow B e 1 (.slice A n c) n xs := World.ownsRow.alloc hown _
  have hother : OwnV (w.alloc (.cells news.toArray e)) B e2 A2 n2 c3 ys := World.ownsRow.alloc h2 _
  have hsz : (w.alloc (.cells news.toArray e)).heap.size = w.heap.size + 1 := by simp
  refine wpList_append_own _ hgd sl x t ho B e i0 z 1 bytes ht hi hz0 hz1 hz2 hzs (by omega) _ n xs hs hown2 ⟨w.heap.size, 0, none⟩ m c2 news hx (by omega) ?_ h1 (by unfold maxLen; omega) ?_ (by omega) ?_
  · intro j u hu
    have hadd : (⟨w.heap.size, 0, none⟩ : Addr).add j = ⟨w.heap.size, j, none⟩ := by unfold Addr.add; split <;> simp_all
    rw [hadd, cell_of_row _ w.heap.size j news.toArray e (0, 0) (heap_alloc_new w _)]
    simpa using hu
  · have : (n + m) * bytes ≤ 1000000 * 16 := Nat.mul_le_mul hlen hby
    omega
  · intro v' w' g1 g2 _
    obtain ⟨A', c', rfl⟩ := own_form g1
    exact h A' c' w' g1 (((Below.refl B w).alloc hB _).trans (below_of_grown hown2 (by omega) g2)) (own_other hown2 hother hne g2)
/- a store into a row that the call owns, beside a row of another kind -/
theorem own_store {w : World} {B : Nat} {e : TypeId} {g n c : Nat} {xs : List Value} (h : OwnV w B e (some ⟨g, 0, none⟩) n c xs) (j : Nat) (u : Value) : OwnV (w.setCell ⟨g, j, none⟩ u) B e (some ⟨g, 0, none⟩) n c (xs.set j u) := (World.ownsRow.stored h j u).1
theorem own_store_far {w : World} {B : Nat} {e e2 : TypeId} {g n c : Nat} {xs : List Value} {A2 : Option Addr} {n2 c2 : Nat} {ys : List Value} (h : OwnV w B e (some ⟨g, 0, none⟩) n c xs) (h2 : OwnV w B e2 A2 n2 c2 ys) (hne : e2 ≠ e) (j : Nat) (u : Value) : OwnV (w.setCell ⟨g, j, none⟩ u) B e2 A2 n2 c2 ys := by
  refine ⟨h2.1, ?_⟩
  rcases h2.2 with hn | ⟨g2, cap2, cur2, hv2, hb2, hh2, hrest⟩
  · exact .inl hn
  · refine .inr ⟨g2, cap2, cur2, hv2, hb2, ?_, hrest⟩
    rw [Below.heap_setCell w ⟨g, j, none⟩ u g2 (fun e3 => ?_)]
    · exact hh2
    · have e3' : g2 = g := e3
      subst e3'
      rcases h.2 with ⟨hh, _⟩ | ⟨g', cap, cur, hv, _, hh, _⟩
      · cases hh
      · injection hv with h1
        injection h1 with h1
        injection h1 with h1
        subst h1
        rw [hh] at hh2
        injection hh2 with h4
        injection h4 with _ h5
        exact hne h5.symm
theorem own_free {w : World} {B : Nat} {e : TypeId} {g n c : Nat} {xs : List Value} (h : OwnV w B e (some ⟨g, 0, none⟩) n c xs) (j : Nat) : w.frozen? ⟨g, j, none⟩ = false := World.ownsRow.frozenAt h j
theorem own_cell {w : World} {B : Nat} {e : TypeId} {g n c : Nat} {xs : List Value} (h : OwnV w B e (some ⟨g, 0, none⟩) n c xs) (j : Nat) (hj : j < n) : w.cell? ⟨g, j, none⟩ = xs[j]? := World.ownsRow.cellAt h j (by omega)
/- a row of bytes of the call's own, told by its cells -/
structure RowG (w : World) (B g n c : Nat) (l : List UInt8) : Prop where
  new : B ≤ g
  len : l.length = n
  le : n ≤ c
  max : c ≤ maxLen
  holds : ∀ j, j < n → w.cell? ⟨g, j, none⟩ = (bc l)[j]?
  there : ∀ j, j < c → (w.cell? ⟨g, j, none⟩).isSome = true ∧ w.frozen? ⟨g, j, none⟩ = false
theorem below_setCells {B g : Nat} {w : World} (hg : B ≤ g) : ∀ (vs : List Value) (o : Nat) (w' : World), Below B w w' → Below B w (w'.setCells g o vs)
  | [], _, _, h => h
  | v :: vs, o, _, h => below_setCells hg vs (o + 1) _ (h.setCell (p := ⟨g, o, none⟩) hg v)
theorem bc_len (l : List UInt8) : (bc l).length = l.length := by simp [bc]
/- []byte(text) -/
theorem conv_row (w : World) (s : ByteArray) (hs : s.size ≤ 1000000) :
    ∃ c w', (convert 9 79 (.string s)).run Tryz.prog w = .ok (.slice (some ⟨w.heap.size, 0, none⟩) s.size c) w' ∧ RowG w' w.heap.size w.heap.size s.size c s.data.toList ∧ Gr w w' := by
  have hrun := run_bytes_of_string (P := Tryz.prog) w 9 79 5 s Tryz.underlying9 Tryz.underlying79 Tryz.underlying5
  have hge := grownCap_ge w s.size 0 5
  have hcm := grownCap_le_maxLen w s.size 0 5 (by unfold maxLen; omega)
  generalize grownCap w s.size 0 5 = cap at *
  have hsz : (bytesRow s cap).size = cap := by
    have : s.data.size = s.size := rfl
    simp only [bytesRow, Array.size_append, Array.size_map, Array.size_replicate]; omega
  rw [hsz] at hrun
  have hb : (w.drew.alloc (.cells (bytesRow s cap) 5 (cap, cap + 1))).heap[w.heap.size]? = some (.cells (bytesRow s cap) 5 (cap, cap + 1)) := heap_alloc_new w.drew _
  have hcell := fun j => cell_of_row _ w.heap.size j (bytesRow s cap) 5 (cap, cap + 1) hb
  refine ⟨cap, _, hrun, ⟨Nat.le_refl _, (Lib.size_eq s).symm, hge, hcm, fun j hj => ?_, fun j hj => ⟨?_, ?_⟩⟩, ((Gr.refl w).drew).allocO _⟩
  · have hjd : j < s.data.size := hj
    rw [hcell j]
    unfold bytesRow bc
    rw [Array.getElem?_append_left (by simpa using hjd), Array.getElem?_map, List.getElem?_map, ← Array.getElem?_toList]
  · rw [hcell j, Array.getElem?_eq_getElem (by rw [hsz]; exact hj)]; rfl
  · simp only [World.frozen?, hb, Bool.and_eq_false_iff, decide_eq_false_iff_not]
    left; omega
/- string(bytes) -/
theorem conv_backG {w : World} {B g n c : Nat} {l : List UInt8} (h : RowG w B g n c l) : (convert 79 9 (.slice (some ⟨g, 0, none⟩) n c)).run Tryz.prog w = .ok (.string ⟨l.toArray⟩) w := by
  have hl := h.len
  subst hl
  refine run_convert_bytes_back w 79 9 5 ⟨g, 0, none⟩ c l Tryz.underlying79 Tryz.underlying5 Tryz.underlying9 (fun j hj => ?_)
  have hadd : (⟨g, 0, none⟩ : Addr).add j = ⟨g, j, none⟩ := by unfold Addr.add; split <;> simp_all
  rw [hadd, h.holds j hj]
  unfold bc
  rw [List.getElem?_map, List.getElem?_eq_getElem hj]
  rfl
theorem str_eq {a b : ByteArray} {q : Bool} (h : q = true ↔ a.data.toList = b.data.toList) : (a.toList == b.toList) = q := by
  rw [Lib.toList_data, Lib.toList_data, Bool.eq_iff_iff, h, beq_iff_eq]
end Go.Proofs.YtleeklcpbflfhaaGreatDoor
namespace Go.Proofs.YtleeklcpbflfhaaGreatDoor
open Go.RowKit

namespace Rm
def wds : List (List UInt8) := [[83, 85], [77, 79], [84, 85], [87, 69], [84, 72], [70, 82], [83, 65]]
def frs : List (List UInt8) := [[68, 65, 73, 76, 89], [87, 69, 69, 75, 76, 89], [77, 79, 78, 84, 72, 76, 89], [89, 69, 65, 82, 76, 89]]
end Rm
/- an element of an array that is a value -/
theorem run_ix (w : World) {t e : TypeId} {n : Nat} (arr : Array Value) (i : Nat) (v : Value) (ht : Tryz.prog.underlying t = some (.array n e)) (ha : (isAgg e).run Tryz.prog w = .ok false w) (hz : (Go.sizeOf e).run Tryz.prog w = .ok 1 w) (hi : i < n) (hv : arr[i]? = some v) :
    Sem.run Tryz.prog (Instr.index t (.agg arr) (.int .i64 (i : Int))) w = .ok v w := by
  have hi2 : ¬ n ≤ i := by omega
  simp [Instr.index, run_underlying ht, asIntOf, hi2, part, ha, hz, hv, go_sem]
theorem run_ixA (w : World) {t e : TypeId} {n : Nat} (arr : Array Value) (i z : Nat) (ht : Tryz.prog.underlying t = some (.array n e)) (ha : (isAgg e).run Tryz.prog w = .ok true w) (hz : (Go.sizeOf e).run Tryz.prog w = .ok z w) (hi : i < n) :
    Sem.run Tryz.prog (Instr.index t (.agg arr) (.int .i64 (i : Int))) w = .ok (.agg (arr.extract (i * z) (i * z + z))) w := by
  have hi2 : ¬ n ≤ i := by omega
  simp [Instr.index, run_underlying ht, asIntOf, hi2, part, ha, hz, go_sem]
structure TbR (w : World) : Prop where
  p : ∀ (i : Nat) x, Rm.names[i]? = some x → w.cell? ⟨0, i, none⟩ = some (.string ⟨x.toArray⟩)
  f : ∀ (i : Nat) x, Rm.frs[i]? = some x → w.cell? ⟨1, i, none⟩ = some (.string ⟨x.toArray⟩)
  d : ∀ (i : Nat) x, Rm.wds[i]? = some x → w.cell? ⟨2, i, none⟩ = some (.string ⟨x.toArray⟩)
theorem TbR.gr {w w' : World} (h : TbR w) (hg : Gr w w') : TbR w' :=
  ⟨fun i x hx => hg.keeps (World.block_lt_of_cell? _ _ (h.p i x hx)) (h.p i x hx), fun i x hx => hg.keeps (World.block_lt_of_cell? _ _ (h.f i x hx)) (h.f i x hx), fun i x hx => hg.keeps (World.block_lt_of_cell? _ _ (h.d i x hx)) (h.d i x hx)⟩
set_option maxRecDepth 100000 in
set_option maxHeartbeats 1000000 in
theorem known_any (s : ByteArray) (w : World) (hT : TbR w) (q : Bool) (hq : q = true ↔ s.data.toList ∈ Rm.names) : Calls Tryz.prog 68 #[.string s] w fun e w' => e = .returned (.bool q) ∧ w = w' := by
  have p0 := hT.p 0 _ rfl
  have p1 := hT.p 1 _ rfl
  have p2 := hT.p 2 _ rfl
  have p3 := hT.p 3 _ rfl
  have p4 := hT.p 4 _ rfl
  have p5 := hT.p 5 _ rfl
  have p6 := hT.p 6 _ rfl
  have p7 := hT.p 7 _ rfl
  have p8 := hT.p 8 _ rfl
  have p9 := hT.p 9 _ rfl
  have p10 := hT.p 10 _ rfl
  have p11 := hT.p 11 _ rfl
  have p12 := hT.p 12 _ rfl
  have p13 := hT.p 13 _ rfl
  clear hT
  have HQ := Lib.hid hq
  clear hq
  go_enter Tryz.func68, Tryz.ntmps68
  go_wp2
  generalize hA : (#[Value.string ⟨Rm.nFREQ.toArray⟩, Value.string ⟨Rm.nINTERVAL.toArray⟩, Value.string ⟨Rm.nCOUNT.toArray⟩, Value.string ⟨Rm.nUNTIL.toArray⟩, Value.string ⟨Rm.nBYSECOND.toArray⟩, Value.string ⟨Rm.nBYMINUTE.toArray⟩, Value.string ⟨Rm.nBYHOUR.toArray⟩, Value.string ⟨Rm.nBYDAY.toArray⟩, Value.string ⟨Rm.nBYMONTHDAY.toArray⟩, Value.string ⟨Rm.nBYYEARDAY.toArray⟩, Value.string ⟨Rm.nBYWEEKNO.toArray⟩, Value.string ⟨Rm.nBYMONTH.toArray⟩, Value.string ⟨Rm.nBYSETPOS.toArray⟩, Value.string ⟨Rm.nWKST.toArray⟩] : Array Value) = arr
  have HA := Lib.hid (show arr = (Rm.names.map fun x => Value.string ⟨x.toArray⟩).toArray by rw [← hA]; rfl)
  clear hA p0 p1 p2 p3 p4 p5 p6 p7 p8 p9 p10 p11 p12 p13
  go_loopg [6] 14 (fun g v wx => ∃ k : Nat, v = .int .i64 (k : Int) ∧ k + g = 14 ∧ w = wx ∧ Hid (s.data.toList ∉ Rm.names.take k))
  case atStart => exact ⟨0, rfl, by omega, rfl, Lib.hid (by simp)⟩
  case round =>
    obtain ⟨k, rfl, hkg, rfl, HN⟩ := hrel
    have HG := Lib.hid hkg
    clear hkg
    by_cases hk : k < 14
    · have hk' : k < Rm.names.length := hk
      have he : arr[k]? = some (.string ⟨Rm.names[k].toArray⟩) := by rw [HA.out, List.getElem?_toArray, List.getElem?_map, List.getElem?_eq_getElem hk']; rfl
      have HT := Lib.hid (List.take_succ_eq_append_getElem hk')
      have HM := Lib.hid (List.getElem_mem hk')
      generalize Rm.names[k] = x at *
      have hkc : (k : Int) < 14 := by omega
      have hix := run_ix w arr k _ Tryz.underlying41 (Tryz.isAgg9 w) (Tryz.sizeOf9 w) hk he
      clear he
      by_cases hx : x = s.data.toList
      · have hs1 : ((ByteArray.mk x.toArray).toList == s.toList) = true := str_eq ⟨fun _ => hx, fun _ => rfl⟩
        have HE : Hid (q = true) := Lib.hid (HQ.out.2 (by rw [← hx]; exact HM.out))
        clear hx
        generalize (ByteArray.mk x.toArray) = y at *
        go_wp2
        go_ret
        exact ⟨ret_bool HE.out.symm, rfl⟩
      · have hs1 : ((ByteArray.mk x.toArray).toList == s.toList) = false := str_eq ⟨fun h => (by cases h), fun h => absurd h hx⟩
        have HX := Lib.hid hx
        clear hx
        generalize (ByteArray.mk x.toArray) = y at *
        go_wp2
        go_roundg (14 - (k + 1))
        case measure => have := HG.out; omega
        case rel =>
          refine ⟨k + 1, by go_num, by omega, rfl, Lib.hid ?_⟩
          rw [HT.out, List.mem_append, List.mem_singleton]
          rintro (h | h)
          · exact HN.out h
          · exact HX.out h.symm
    · obtain rfl : k = 14 := by have := HG.out; omega
      have HE : Hid (q = false) := Lib.hid (by
        cases hc : q
        · rfl
        · exact absurd (HQ.out.1 hc) HN.out)
      go_wp2
      go_ret
      exact ⟨ret_bool HE.out.symm, rfl⟩
set_option maxRecDepth 100000 in
set_option maxHeartbeats 1000000 in
theorem weekday0_any (s : ByteArray) (w : World) (hT : TbR w) (v : Int) (q : Bool) (h1 : ∀ k : Nat, Rm.wds[k]? = some s.data.toList → v = (k : Int) ∧ q = true) (h2 : s.data.toList ∉ Rm.wds → v = 0 ∧ q = false) :
    Calls Tryz.prog 75 #[.string s] w fun e w' => e = .returned (.tuple #[.int .i64 v, .bool q]) ∧ w = w' := by
  have p0 := hT.d 0 _ rfl
  have p1 := hT.d 1 _ rfl
  have p2 := hT.d 2 _ rfl
  have p3 := hT.d 3 _ rfl
  have p4 := hT.d 4 _ rfl
  have p5 := hT.d 5 _ rfl
  have p6 := hT.d 6 _ rfl
  clear hT
  have HQ := Lib.hid (And.intro h1 h2)
  clear h1 h2
  go_enter Tryz.func75, Tryz.ntmps75
  go_wp2
  generalize hA : (#[Value.string ⟨([83, 85] : List UInt8).toArray⟩, Value.string ⟨([77, 79] : List UInt8).toArray⟩, Value.string ⟨([84, 85] : List UInt8).toArray⟩, Value.string ⟨([87, 69] : List UInt8).toArray⟩, Value.string ⟨([84, 72] : List UInt8).toArray⟩, Value.string ⟨([70, 82] : List UInt8).toArray⟩, Value.string ⟨([83, 65] : List UInt8).toArray⟩] : Array Value) = arr
  have HA := Lib.hid (show arr = (Rm.wds.map fun x => Value.string ⟨x.toArray⟩).toArray by rw [← hA]; rfl)
  clear hA p0 p1 p2 p3 p4 p5 p6
  go_loopg [7] 7 (fun g v wx => ∃ k : Nat, v = .int .i64 (k : Int) ∧ k + g = 7 ∧ w = wx ∧ Hid (s.data.toList ∉ Rm.wds.take k))
  case atStart => exact ⟨0, rfl, by omega, rfl, Lib.hid (by simp)⟩
  case round =>
    obtain ⟨k, rfl, hkg, rfl, HN⟩ := hrel
    have HG := Lib.hid hkg
    clear hkg
    by_cases hk : k < 7
    · have hk' : k < Rm.wds.length := hk
      have he : arr[k]? = some (.string ⟨Rm.wds[k].toArray⟩) := by rw [HA.out, List.getElem?_toArray, List.getElem?_map, List.getElem?_eq_getElem hk']; rfl
      have HT := Lib.hid (List.take_succ_eq_append_getElem hk')
      have HM := Lib.hid (List.getElem?_eq_getElem hk')
      generalize Rm.wds[k] = x at *
      have hkc : (k : Int) < 7 := by omega
      have hix := run_ix w arr k _ Tryz.underlying119 (Tryz.isAgg9 w) (Tryz.sizeOf9 w) hk he
      clear he
      by_cases hx : x = s.data.toList
      · have hs1 : ((ByteArray.mk x.toArray).toList == s.toList) = true := str_eq ⟨fun _ => hx, fun _ => rfl⟩
        obtain ⟨rfl, rfl⟩ := HQ.out.1 k (by rw [← hx]; exact HM.out)
        clear hx
        generalize (ByteArray.mk x.toArray) = y at *
        go_wp2
        go_ret2
        exact ⟨rfl, rfl⟩
      · have hs1 : ((ByteArray.mk x.toArray).toList == s.toList) = false := str_eq ⟨fun h => (by cases h), fun h => absurd h hx⟩
        have HX := Lib.hid hx
        clear hx
        generalize (ByteArray.mk x.toArray) = y at *
        go_wp2
        go_roundg (7 - (k + 1))
        case measure => have := HG.out; omega
        case rel =>
          refine ⟨k + 1, by go_num, by omega, rfl, Lib.hid ?_⟩
          rw [HT.out, List.mem_append, List.mem_singleton]
          rintro (h | h)
          · exact HN.out h
          · exact HX.out h.symm
    · obtain rfl : k = 7 := by have := HG.out; omega
      obtain ⟨rfl, rfl⟩ := HQ.out.2 HN.out
      go_wp2
      go_ret2
      exact ⟨rfl, rfl⟩
set_option maxRecDepth 100000 in
set_option maxHeartbeats 1000000 in
theorem frequency0_any (s : ByteArray) (w : World) (hT : TbR w) (v : Int) (q : Bool) (h1 : ∀ k : Nat, Rm.frs[k]? = some s.data.toList → v = 1 + (k : Int) ∧ q = true) (h2 : s.data.toList ∉ Rm.frs → v = 0 ∧ q = false) :
    Calls Tryz.prog 70 #[.string s] w fun e w' => e = .returned (.tuple #[.int .i64 v, .bool q]) ∧ w = w' := by
  have p0 := hT.f 0 _ rfl
  have p1 := hT.f 1 _ rfl
  have p2 := hT.f 2 _ rfl
  have p3 := hT.f 3 _ rfl
  clear hT
  have HQ := Lib.hid (And.intro h1 h2)
  clear h1 h2
  go_enter Tryz.func70, Tryz.ntmps70
  go_wp2
  generalize hA : (#[Value.string ⟨([68, 65, 73, 76, 89] : List UInt8).toArray⟩, Value.string ⟨([87, 69, 69, 75, 76, 89] : List UInt8).toArray⟩, Value.string ⟨([77, 79, 78, 84, 72, 76, 89] : List UInt8).toArray⟩, Value.string ⟨([89, 69, 65, 82, 76, 89] : List UInt8).toArray⟩] : Array Value) = arr
  have HA := Lib.hid (show arr = (Rm.frs.map fun x => Value.string ⟨x.toArray⟩).toArray by rw [← hA]; rfl)
  clear hA p0 p1 p2 p3
  go_loopg [7] 4 (fun g v wx => ∃ k : Nat, v = .int .i64 (k : Int) ∧ k + g = 4 ∧ w = wx ∧ Hid (s.data.toList ∉ Rm.frs.take k))
  case atStart => exact ⟨0, rfl, by omega, rfl, Lib.hid (by simp)⟩
  case round =>
    obtain ⟨k, rfl, hkg, rfl, HN⟩ := hrel
    have HG := Lib.hid hkg
    clear hkg
    by_cases hk : k < 4
    · have hk' : k < Rm.frs.length := hk
      have he : arr[k]? = some (.string ⟨Rm.frs[k].toArray⟩) := by rw [HA.out, List.getElem?_toArray, List.getElem?_map, List.getElem?_eq_getElem hk']; rfl
      have HT := Lib.hid (List.take_succ_eq_append_getElem hk')
      have HM := Lib.hid (List.getElem?_eq_getElem hk')
      generalize Rm.frs[k] = x at *
      have hkc : (k : Int) < 4 := by omega
      have hix := run_ix w arr k _ Tryz.underlying72 (Tryz.isAgg9 w) (Tryz.sizeOf9 w) hk he
      clear he
      by_cases hx : x = s.data.toList
      · have hs1 : ((ByteArray.mk x.toArray).toList == s.toList) = true := str_eq ⟨fun _ => hx, fun _ => rfl⟩
        obtain ⟨rfl, rfl⟩ := HQ.out.1 k (by rw [← hx]; exact HM.out)
        clear hx
        generalize (ByteArray.mk x.toArray) = y at *
        go_wp2
        go_ret2
        exact ⟨rfl, rfl⟩
      · have hs1 : ((ByteArray.mk x.toArray).toList == s.toList) = false := str_eq ⟨fun h => (by cases h), fun h => absurd h hx⟩
        have HX := Lib.hid hx
        clear hx
        generalize (ByteArray.mk x.toArray) = y at *
        go_wp2
        go_roundg (4 - (k + 1))
        case measure => have := HG.out; omega
        case rel =>
          refine ⟨k + 1, by go_num, by omega, rfl, Lib.hid ?_⟩
          rw [HT.out, List.mem_append, List.mem_singleton]
          rintro (h | h)
          · exact HN.out h
          · exact HX.out h.symm
    · obtain rfl : k = 4 := by have := HG.out; omega
      obtain ⟨rfl, rfl⟩ := HQ.out.2 HN.out
      go_wp2
      go_ret2
      exact ⟨rfl, rfl⟩
namespace Rm
theorem which_at : ∀ (k : Nat) (l : List UInt8), wds[k]? = some l → which l = (k : Int)
  | 0, _, h => by cases h; decide
  | 1, _, h => by cases h; decide
  | 2, _, h => by cases h; decide
  | 3, _, h => by cases h; decide
  | 4, _, h => by cases h; decide
  | 5, _, h => by cases h; decide
  | 6, _, h => by cases h; decide
  | k + 7, _, h => by cases h
theorem which_out {l : List UInt8} (h : l ∉ wds) : which l = -1 := by
  unfold wds at h
  simp only [List.mem_cons, List.not_mem_nil, or_false, not_or] at h
  unfold which
  rw [if_neg h.1, if_neg h.2.1, if_neg h.2.2.1, if_neg h.2.2.2.1, if_neg h.2.2.2.2.1, if_neg h.2.2.2.2.2.1, if_neg h.2.2.2.2.2.2]
theorem freqR_at : ∀ (k : Nat) (l : List UInt8), frs[k]? = some l → freqR l = some (1 + (k : Int))
  | 0, _, h => by cases h; decide
  | 1, _, h => by cases h; decide
  | 2, _, h => by cases h; decide
  | 3, _, h => by cases h; decide
  | k + 4, _, h => by cases h
theorem freqR_out {l : List UInt8} (h : l ∉ frs) : freqR l = none := by
  unfold frs at h
  simp only [List.mem_cons, List.not_mem_nil, or_false, not_or] at h
  unfold freqR
  rw [if_neg h.1, if_neg h.2.1, if_neg h.2.2.1, if_neg h.2.2.2]
end Rm
theorem weekday_any (s : ByteArray) (w : World) (hT : TbR w) :
    Calls Tryz.prog 75 #[.string s] w fun e w' => e = .returned (.tuple #[.int .i64 (if 0 ≤ Rm.which s.data.toList then Rm.which s.data.toList else 0), .bool (decide (0 ≤ Rm.which s.data.toList))]) ∧ w = w' :=
  weekday0_any s w hT _ _ (fun k h => by rw [Rm.which_at k _ h]; exact ⟨if_pos (by omega), by simp⟩) (fun h => by rw [Rm.which_out h]; exact ⟨rfl, rfl⟩)
theorem frequency_any (s : ByteArray) (w : World) (hT : TbR w) :
    Calls Tryz.prog 70 #[.string s] w fun e w' => e = .returned (.tuple #[.int .i64 ((Rm.freqR s.data.toList).getD 0), .bool (Rm.freqR s.data.toList).isSome]) ∧ w = w' :=
  frequency0_any s w hT _ _ (fun k h => by rw [Rm.freqR_at k _ h]; exact ⟨rfl, rfl⟩) (fun h => by rw [Rm.freqR_out h]; exact ⟨rfl, rfl⟩)
end Go.Proofs.YtleeklcpbflfhaaGreatDoor
namespace Go.Proofs.YtleeklcpbflfhaaGreatDoor
open Go.RowKit

/- a list of elements of two cells that is read -/
def Pr2 {α : Type} (f g : α → Value) (w : World) (B : Nat) (A : Option Addr) (n : Nat) (ps : List α) : Prop :=
  ps.length = n ∧ (0 < n → ∃ ad : Addr, A = some ad ∧ ad.block < B ∧ ∀ j p, ps[j]? = some p → w.cell? (ad.add (j * 2)) = some (f p) ∧ w.cell? ⟨(ad.add (j * 2)).block, (ad.add (j * 2)).off + 1, none⟩ = some (g p))
section
variable {α : Type} {f g : α → Value} {w w' : World} {B : Nat} {A : Option Addr} {n : Nat} {ps : List α}
theorem Pr2.nil (w : World) (B : Nat) (A : Option Addr) : Pr2 f g w B A 0 [] := ⟨rfl, fun h => absurd h (by omega)⟩
theorem Pr2.at_ (h : Pr2 f g w B A n ps) {k : Nat} (hk : k < n) :
    ∃ ad : Addr, ∃ hk' : k < ps.length, A = some ad ∧ ad.block < B ∧ w.cell? (ad.add (k * 2)) = some (f ps[k]) ∧ w.cell? ⟨(ad.add (k * 2)).block, (ad.add (k * 2)).off + 1, none⟩ = some (g ps[k]) := by
  obtain ⟨ad, e, hb, hc⟩ := h.2 (by omega)
  have hl : k < ps.length := by rw [h.1]; exact hk
  exact ⟨ad, hl, e, hb, hc k _ (List.getElem?_eq_getElem hl)⟩
theorem Pr2.keep (h : Pr2 f g w B A n ps) (hb : Below B w w') : Pr2 f g w' B A n ps :=
  ⟨h.1, fun hn => by
    obtain ⟨ad, e, hbl, hc⟩ := h.2 hn
    exact ⟨ad, e, hbl, fun j p hp => ⟨(hb.cell (by rw [add_block]; exact hbl)).trans (hc j p hp).1, (hb.cell (by show (ad.add (j * 2)).block < B; rw [add_block]; exact hbl)).trans (hc j p hp).2⟩⟩⟩
theorem Pr2.more {B' : Nat} (h : Pr2 f g w B A n ps) (hB : B ≤ B') : Pr2 f g w B' A n ps :=
  ⟨h.1, fun hn => by
    obtain ⟨ad, e, hbl, hc⟩ := h.2 hn
    exact ⟨ad, e, by omega, hc⟩⟩
theorem Pr2.gr (h : Pr2 f g w w.heap.size A n ps) (hg : Gr w w') : Pr2 f g w' w'.heap.size A n ps := (h.keep hg.below).more hg.lt
theorem Pr2.cut (h : Pr2 f g w B A n ps) (k : Nat) (hk : k ≤ n) : Pr2 f g w B A k (ps.take k) :=
  ⟨by rw [List.length_take, h.1]; omega, fun hn => by
    obtain ⟨ad, e, hbl, hc⟩ := h.2 (by omega)
    refine ⟨ad, e, hbl, fun j p hp => hc j p ?_⟩
    rw [List.getElem?_take] at hp
    split at hp
    · exact hp
    · cases hp⟩
end
/- .. that a call owns -/
def Own2 (w : World) (B : Nat) (e : TypeId) (A : Option Addr) (n c : Nat) (xs : List Value) : Prop := w.ownsRow B e 2 (.slice A n c) n xs
def cel2 {α : Type} (f g : α → Value) (ps : List α) : List Value := ps.flatMap fun p => [f p, g p]
theorem cel2_app {α : Type} (f g : α → Value) (a b : List α) : cel2 f g (a ++ b) = cel2 f g a ++ cel2 f g b := by simp [cel2]
theorem cel2_len {α : Type} (f g : α → Value) : ∀ ps : List α, (cel2 f g ps).length = ps.length * 2
  | [] => rfl
  | p :: t => by
    have := cel2_len f g t
    unfold cel2 at *
    rw [List.flatMap_cons, List.length_append, this, List.length_cons]
    simp; omega
theorem cel2_at {α : Type} (f g : α → Value) : ∀ (ps : List α) (j : Nat) (p : α), ps[j]? = some p → (cel2 f g ps)[j * 2]? = some (f p) ∧ (cel2 f g ps)[j * 2 + 1]? = some (g p)
  | [], j, p, h => by simp at h
  | q :: t, 0, p, h => by
    obtain rfl : q = p := by simpa using h
    exact ⟨rfl, rfl⟩
  | q :: t, j + 1, p, h => by
    have := cel2_at f g t j p (by simpa using h)
    rw [show (j + 1) * 2 = j * 2 + 1 + 1 by omega]
    unfold cel2 at *
    simpa using this
theorem Own2.nil (w : World) (B : Nat) (e : TypeId) : Own2 w B e none 0 0 [] := World.ownsRow_nil _ _ _ _
theorem Own2.gr {w w' : World} {B : Nat} {e : TypeId} {A : Option Addr} {n c : Nat} {xs : List Value} (h : Own2 w B e A n c xs) (hg : Gr w w') : Own2 w' B e A n c xs := by
  refine ⟨h.1, ?_⟩
  rcases h.2 with hn | ⟨g, cap, cur, hv, hb, hh, rest⟩
  · exact .inl hn
  · exact .inr ⟨g, cap, cur, hv, hb, (hg.below.block g (Array.getElem?_eq_some_iff.1 hh).1).trans hh, rest⟩
theorem below_of_own {w w' : World} {B : Nat} {e : TypeId} {k : Nat} {v : Value} {n : Nat} {xs : List Value} (h : w.ownsRow B e k v n xs) (hB : B ≤ w.heap.size) (hg : w.grownBy w' v.ownBlock) : Below B w w' :=
  (Below.refl B w).grown hg hB (fun k hk => (h.lt k hk).1)
theorem own_formK {w : World} {B : Nat} {e : TypeId} {k : Nat} {v : Value} {n : Nat} {xs : List Value} (h : w.ownsRow B e k v n xs) : ∃ A c, v = .slice A n c := by
  rcases h.2 with ⟨rfl, rfl⟩ | ⟨g, cap, cur, rfl, _⟩
  · exact ⟨_, _, rfl⟩
  · exact ⟨_, _, rfl⟩
theorem Own2.pr {α : Type} {f g : α → Value} {w : World} {B : Nat} {e : TypeId} {A : Option Addr} {n c : Nat} {ps : List α} (h : Own2 w B e A n c (cel2 f g ps)) : Pr2 f g w w.heap.size A n ps := by
  have hl : ps.length = n := by
    have := h.1
    rw [cel2_len] at this
    omega
  refine ⟨hl, fun hn => ?_⟩
  obtain ⟨b, cap, hv, hb, hlt⟩ := World.ownsRow.form h hn
  injection hv with h4
  subst h4
  refine ⟨⟨b, 0, none⟩, rfl, hlt, fun j p hp => ?_⟩
  obtain ⟨g1, g2⟩ := cel2_at f g ps j p hp
  have hc := World.ownsRow.cells (g := b) h rfl
  have e1 := hc _ _ g1
  have e2 := hc _ _ g2
  have hadd : ∀ j, (⟨b, 0, none⟩ : Addr).add j = ⟨b, j, none⟩ := fun j => by unfold Addr.add; split <;> simp_all
  rw [hadd] at e1 e2 ⊢
  exact ⟨e1, e2⟩
/- parts of a rule in memory -/
abbrev sv1 (p : List UInt8 × List UInt8) : Value := .string ⟨p.1.toArray⟩
abbrev sv2 (p : List UInt8 × List UInt8) : Value := .string ⟨p.2.toArray⟩
theorem info_part : (Tryz.prog.info? 65).map (fun i => (i.zero, i.size, i.bytes)) = some (some (.agg #[.string ⟨#[]⟩, .string ⟨#[]⟩]), 2, 32) := by kernel_rfl

set_option maxHeartbeats 1000000 in
theorem has1_any (bn : Nat) (name a b : ByteArray) (w : World) (hN : w.cell? ⟨bn, 0, none⟩ = some (.string name)) (q : Bool) (hq : q = true ↔ a.data.toList = name.data.toList) :
    Calls Tryz.prog 99 #[.agg #[.string a, .string b], .pointer (some ⟨bn, 0, none⟩)] w fun e w' => e = .returned (.bool q) ∧ Gr w w' := by
  have HQ := Lib.hid hq
  clear hq
  have hbl := World.block_lt_of_cell? _ _ hN
  go_enter Tryz.func99, Tryz.ntmps99
  go_wp2
  go_ret
  exact ⟨ret_bool (str_eq HQ.out), (Gr.refl _).allocO _⟩
namespace Rm
/- at which place a name is, or -1 -/
def Ixq (ps : List (List UInt8 × List UInt8)) (nm : List UInt8) (v : Int) : Prop := (v = -1 ∧ nm ∉ ps.map Prod.fst) ∨ (0 ≤ v ∧ nm ∈ ps.map Prod.fst)
end Rm
set_option maxRecDepth 100000 in
set_option maxHeartbeats 1000000 in
theorem hidx_any (bn : Nat) (name : ByteArray) (A : Option Addr) (n c : Nat) (ps : List (List UInt8 × List UInt8)) (w : World) (hN : w.cell? ⟨bn, 0, none⟩ = some (.string name)) (hP : Pr2 sv1 sv2 w w.heap.size A n ps) (hn : n ≤ 140737488355328) :
    Calls Tryz.prog 131 #[.slice A n c, .func (.func 99) #[] #[.pointer (some ⟨bn, 0, none⟩)]] w fun e w' => ∃ v : Int, e = .returned (.int .i64 v) ∧ Rm.Ixq ps name.data.toList v ∧ Gr w w' := by
  have HL := Lib.hid hP.1
  have hbn := World.block_lt_of_cell? _ _ hN
  go_enter Tryz.func131, Tryz.ntmps131
  go_wp2
  go_loopg [8] n (fun g v wx => ∃ k : Nat, v = .int .i64 (k : Int) ∧ k + g = n ∧ Gr w wx ∧ Hid (name.data.toList ∉ (ps.take k).map Prod.fst))
  case atStart => exact ⟨0, rfl, by omega, Gr.refl _, Lib.hid (by simp)⟩
  case round =>
    obtain ⟨k, rfl, hkg, hg, HN⟩ := hrel
    have HG := Lib.hid hkg
    clear hkg
    by_cases hk : k < n
    · obtain ⟨ad, hk', rfl, hbl, hc0, hc1⟩ := hP.at_ hk
      have d0 := (hg.below.cell (p := ad.add (k * 2)) (by rw [add_block]; exact hbl)).trans hc0
      have d1 := (hg.below.cell (p := ⟨(ad.add (k * 2)).block, (ad.add (k * 2)).off + 1, none⟩) (by show (ad.add (k * 2)).block < _; rw [add_block]; exact hbl)).trans hc1
      dsimp only [sv1, sv2] at d0 d1
      have c1 := has1_any bn name ⟨ps[k].1.toArray⟩ ⟨ps[k].2.toArray⟩ wr ((hg.below.cell hbn).trans hN)
      have HK := Lib.hid hk'
      have HT := Lib.hid (List.take_succ_eq_append_getElem hk')
      have HM := Lib.hid (List.getElem_mem hk')
      by_cases hq : ps[k].1 = name.data.toList
      · have c1 := c1 true ⟨fun _ => hq, fun _ => rfl⟩
        have HQ := Lib.hid hq
        clear hq hc0 hc1 hP
        generalize (ByteArray.mk ps[k].1.toArray) = a at *
        generalize (ByteArray.mk ps[k].2.toArray) = b at *
        go_wp2_with (go_at_call 99; refine c1.mono ?_; rintro e w' ⟨rfl, hg2⟩)
        go_ret
        exact ⟨_, rfl, .inr ⟨by omega, List.mem_map.2 ⟨_, HM.out, HQ.out⟩⟩, hg.trans hg2⟩
      · have c1 := c1 false ⟨fun h => (by cases h), fun h => absurd h hq⟩
        have HQ := Lib.hid hq
        clear hq hc0 hc1 hP
        generalize (ByteArray.mk ps[k].1.toArray) = a at *
        generalize (ByteArray.mk ps[k].2.toArray) = b at *
        go_wp2_with (go_at_call 99; refine c1.mono ?_; rintro e w' ⟨rfl, hg2⟩)
        go_roundg (n - (k + 1))
        case measure => have := HG.out; omega
        case rel =>
          refine ⟨k + 1, by go_num, by omega, hg.trans hg2, Lib.hid ?_⟩
          rw [HT.out, List.map_append, List.mem_append]
          rintro (h | h)
          · exact HN.out h
          · have h2 : name.data.toList = ps[k].1 := List.mem_singleton.1 h
            exact HQ.out h2.symm
    · obtain rfl : k = n := by have := HG.out; omega
      have HA : Hid (name.data.toList ∉ ps.map Prod.fst) := Lib.hid (by
        have := HN.out
        rwa [List.take_of_length_le (by rw [HL.out]; exact Nat.le_refl _)] at this)
      go_wp2
      go_ret
      exact ⟨_, rfl, .inl ⟨rfl, HA.out⟩, hg⟩
set_option maxHeartbeats 1000000 in
theorem hcont_any (bn : Nat) (name : ByteArray) (A : Option Addr) (n c : Nat) (ps : List (List UInt8 × List UInt8)) (w : World) (hN : w.cell? ⟨bn, 0, none⟩ = some (.string name)) (hP : Pr2 sv1 sv2 w w.heap.size A n ps) (hn : n ≤ 140737488355328) :
    Calls Tryz.prog 98 #[.slice A n c, .func (.func 99) #[] #[.pointer (some ⟨bn, 0, none⟩)]] w fun e w' => e = .returned (.bool ((ps.map Prod.fst).contains name.data.toList)) ∧ Gr w w' := by
  have cI := fun w hN hP => hidx_any bn name A n c ps w hN hP hn
  go_enter Tryz.func98, Tryz.ntmps98
  go_wp2_with fail
  refine (cI _ hN hP).mono ?_
  rintro e w1 ⟨v, rfl, hv, hg⟩
  have HE : Hid (decide (0 ≤ v) = (ps.map Prod.fst).contains name.data.toList) := Lib.hid (by
    rcases hv with ⟨rfl, h⟩ | ⟨h0, h⟩
    · simpa using h
    · rw [show (ps.map Prod.fst).contains name.data.toList = true by simpa using h]
      simpa using h0)
  clear hv
  go_wp2
  go_ret
  exact ⟨ret_bool HE.out, hg⟩
set_option maxHeartbeats 1000000 in
theorem has_any (name : ByteArray) (A : Option Addr) (n c : Nat) (ps : List (List UInt8 × List UInt8)) (w : World) (hP : Pr2 sv1 sv2 w w.heap.size A n ps) (hn : n ≤ 140737488355328) :
    Calls Tryz.prog 69 #[.slice A n c, .string name] w fun e w' => e = .returned (.bool ((ps.map Prod.fst).contains name.data.toList)) ∧ Gr w w' := by
  have hg : Gr w (w.alloc (.cells #[.string name] 9)) := (Gr.refl w).allocO _
  have hP2 := hP.gr hg
  have cF := hcont_any w.heap.size name A n c ps _ (by simp) hP2 hn
  generalize (ps.map Prod.fst).contains name.data.toList = q at *
  go_enter Tryz.func69, Tryz.ntmps69
  go_wp2_with (go_at_call 98; refine cF.mono ?_; rintro e w' ⟨rfl, hg2⟩)
  go_ret
  exact ⟨rfl, hg.trans hg2⟩
/- strings.Cut at = -/
namespace Rm
def cutE (l : List UInt8) : List UInt8 × List UInt8 × Bool := match splitEq l with
  | some p => (p.1, p.2, true)
  | none => (l, [], false)
theorem tw_eq (l : List UInt8) : l.takeWhile (· != 61) = l.takeWhile notEq := rfl
theorem cutE_in {l : List UInt8} (h : 61 ∈ l) : cutE l = (l.take (l.takeWhile (· != 61)).length, l.drop ((l.takeWhile (· != 61)).length + 1), true) := by
  induction l with
  | nil => cases h
  | cons b l ih =>
    by_cases e : b = 61
    · subst e; rfl
    · have h1 : 61 ∈ l := by rcases List.mem_cons.1 h with h | h; exact absurd h.symm e; exact h
      have i := ih h1
      have hb : notEq b = true := by simpa [notEq] using e
      have hb2 : (b != 61) = true := hb
      unfold cutE splitEq at i ⊢
      rw [List.dropWhile_cons, if_pos hb, List.takeWhile_cons (p := notEq), if_pos hb, List.takeWhile_cons, if_pos hb2]
      cases hd : l.dropWhile notEq with
      | nil => rw [hd] at i; simp at i
      | cons x v =>
        rw [hd] at i
        simp only [Prod.mk.injEq] at i
        simp only [List.length_cons, List.take_succ_cons, List.drop_succ_cons]
        rw [i.1, i.2.1]
theorem cutE_out {l : List UInt8} (h : 61 ∉ l) : cutE l = (l, [], false) := by
  have hd : l.dropWhile notEq = [] := by
    induction l with
    | nil => rfl
    | cons b l ih =>
      rw [List.mem_cons, not_or] at h
      have hb : notEq b = true := by simpa [notEq] using fun e : b = 61 => h.1 e.symm
      rw [List.dropWhile_cons, if_pos hb]
      exact ih h.2
  unfold cutE splitEq
  rw [hd]
end Rm
set_option maxHeartbeats 1000000 in
theorem cutlite_any (s : ByteArray) (w : World) (hs : s.size ≤ 9223372036854775807) :
    Calls Tryz.prog 97 #[.string s, .string ⟨#[61]⟩] w fun e w' => e = .returned (.tuple #[.string ⟨(Rm.cutE s.data.toList).1.toArray⟩, .string ⟨(Rm.cutE s.data.toList).2.1.toArray⟩, .bool (Rm.cutE s.data.toList).2.2]) ∧ Gr w w' := by
  have hsz := Lib.size_eq s
  by_cases h : 61 ∈ s.data.toList
  · have hi := Fd.idx_in 61 _ h
    rw [Rm.cutE_in h]
    have e4 : (s.data.toList.takeWhile (· != 61)).length < s.data.toList.length := by
      rcases Nat.lt_or_ge (s.data.toList.takeWhile (· != 61)).length s.data.toList.length with h1 | h1
      · exact h1
      · have hp := (List.takeWhile_prefix (p := (· != (61 : UInt8))) (l := s.data.toList)).eq_of_length_le h1
        have := List.all_takeWhile (p := (· != (61 : UInt8))) (l := s.data.toList)
        rw [hp, List.all_eq_true] at this
        exact absurd (this 61 h) (by decide)
    generalize hk : (s.data.toList.takeWhile (· != 61)).length = k at *
    have hkz : k < s.size := by omega
    have X1 := Lib.hid (extract_to s k)
    have X2 := Lib.hid (extract_from s (k + 1))
    have HI := Lib.hid hi
    clear hi hk hsz h e4
    go_enter Tryz.func97, Tryz.ntmps97
    go_wp2_with fail
    refine (Tryz.stringslite_Index_one s 61 _).mono ?_
    rintro e w' ⟨rfl, rfl⟩
    rw [HI.out]
    go_wp2
    go_region
    all_goals (try go_wp2)
    all_goals go_ret3
    all_goals (rw [← X1.out, ← X2.out]; exact ⟨rfl, (Gr.refl _).drew⟩)
  · have hi := Fd.idx_out 61 _ h
    rw [Rm.cutE_out h]
    simp only [mk_data]
    have HI := Lib.hid hi
    clear hi
    go_enter Tryz.func97, Tryz.ntmps97
    go_wp2_with fail
    refine (Tryz.stringslite_Index_one s 61 _).mono ?_
    rintro e w' ⟨rfl, rfl⟩
    rw [HI.out]
    go_wp2
    go_ret3
    exact ⟨rfl, Gr.refl _⟩
set_option maxHeartbeats 1000000 in
theorem cut_any (s : ByteArray) (w : World) (hs : s.size ≤ 9223372036854775807) :
    Calls Tryz.prog 67 #[.string s, .string ⟨#[61]⟩] w fun e w' => e = .returned (.tuple #[.string ⟨(Rm.cutE s.data.toList).1.toArray⟩, .string ⟨(Rm.cutE s.data.toList).2.1.toArray⟩, .bool (Rm.cutE s.data.toList).2.2]) ∧ Gr w w' := by
  have cC := fun w => cutlite_any s w hs
  generalize (Rm.cutE s.data.toList).1.toArray = x at *
  generalize (Rm.cutE s.data.toList).2.1.toArray = y at *
  generalize (Rm.cutE s.data.toList).2.2 = z at *
  go_enter Tryz.func67, Tryz.ntmps67
  go_wp2_with fail
  refine (cC _).mono ?_
  rintro e w' ⟨rfl, hg⟩
  go_wp2
  go_ret3
  exact ⟨rfl, hg⟩
end Go.Proofs.YtleeklcpbflfhaaGreatDoor
namespace Go.Proofs.YtleeklcpbflfhaaGreatDoor
open Go.RowKit

theorem within_any (n a b : Int) (w : World) : Calls Tryz.prog 26 #[.int .i64 n, .int .i64 a, .int .i64 b] w fun e w' => e = .returned (.bool (decide (a ≤ n) && decide (n ≤ b))) ∧ w = w' := by
  rcases h1 : decide (a ≤ n)
  · go_enter Tryz.func26, Tryz.ntmps26
    go_wp2
    go_ret
    exact ⟨rfl, rfl⟩
  · rcases h2 : decide (n ≤ b)
    · go_enter Tryz.func26, Tryz.ntmps26
      go_wp2
      go_ret
      exact ⟨rfl, rfl⟩
    · go_enter Tryz.func26, Tryz.ntmps26
      go_wp2
      go_ret
      exact ⟨rfl, rfl⟩
/- what a list of numbers may hold, by its ends -/
def alw (lo hi n : Int) : Bool := decide (lo ≤ n) && decide (n ≤ hi) && (n != 0 || lo == 0)
theorem allows_any (nm : ByteArray) (p : Value) (lo hi n : Int) (w : World) (hp : ∃ a, p = .pointer a) :
    Calls Tryz.prog 61 #[.agg #[.string nm, p, .int .i64 lo, .int .i64 hi], .int .i64 n] w fun e w' => e = .returned (.bool (alw lo hi n)) ∧ Gr w w' := by
  obtain ⟨a, rfl⟩ := hp
  have cW := fun w => within_any n lo hi w
  unfold alw
  generalize (decide (lo ≤ n) && decide (n ≤ hi)) = q at *
  rcases q
  · go_enter Tryz.func61, Tryz.ntmps61
    go_wp2_with (go_at_call 26; refine (cW _).mono ?_; rintro e w' ⟨rfl, rfl⟩)
    go_ret
    exact ⟨rfl, (Gr.refl w).alloc _ _⟩
  · by_cases h1 : n = 0
    · by_cases h2 : lo = 0
      · subst h1 h2
        go_enter Tryz.func61, Tryz.ntmps61
        go_wp2_with (go_at_call 26; refine (cW _).mono ?_; rintro e w' ⟨rfl, rfl⟩)
        go_ret
        exact ⟨rfl, (Gr.refl w).alloc _ _⟩
      · have h3 : (lo == 0) = false := by simpa using h2
        subst h1
        rw [h3]
        go_enter Tryz.func61, Tryz.ntmps61
        go_wp2_with (go_at_call 26; refine (cW _).mono ?_; rintro e w' ⟨rfl, rfl⟩)
        go_ret
        exact ⟨rfl, (Gr.refl w).alloc _ _⟩
    · have h3 : (n != 0) = true := by simpa using h1
      rw [h3]
      go_enter Tryz.func61, Tryz.ntmps61
      go_wp2_with (go_at_call 26; refine (cW _).mono ?_; rintro e w' ⟨rfl, rfl⟩)
      go_ret
      exact ⟨rfl, (Gr.refl w).alloc _ _⟩
theorem allowsD_any (n d : Int) (w : World) : Calls Tryz.prog 31 #[.agg #[.int .i64 n, .int .i64 d]] w fun e w' => e = .returned (.bool (Rm.mayD (n, d))) ∧ Gr w w' := by
  have cW := fun w => within_any d 0 6 w
  have cV := fun w => within_any n (-53) 53 w
  have e0 : Rm.mayD (n, d) = ((decide (0 ≤ d) && decide (d ≤ 6)) && (decide (-53 ≤ n) && decide (n ≤ 53))) := by unfold Rm.mayD; simp only [Bool.and_assoc]
  rw [e0]
  clear e0
  generalize (decide (0 ≤ d) && decide (d ≤ 6)) = p at *
  generalize (decide (-53 ≤ n) && decide (n ≤ 53)) = q at *
  rcases p
  · go_enter Tryz.func31, Tryz.ntmps31
    go_wp2_with (go_at_call 26; refine (cW _).mono ?_; rintro e w' ⟨rfl, rfl⟩)
    go_ret
    exact ⟨rfl, (Gr.refl w).alloc _ _⟩
  · go_enter Tryz.func31, Tryz.ntmps31
    go_wp2_with fail
    refine (cW _).mono ?_
    rintro e w' ⟨rfl, rfl⟩
    go_wp2_with fail
    refine (cV _).mono ?_
    rintro e w' ⟨rfl, rfl⟩
    go_wp2
    go_ret
    exact ⟨rfl, (Gr.refl w).alloc _ _⟩
theorem hasNth_any (n d : Int) (w : World) : Calls Tryz.prog 65 #[.agg #[.int .i64 n, .int .i64 d]] w fun e w' => e = .returned (.bool (n != 0)) ∧ Gr w w' := by
  rcases h : (n != 0)
  · go_enter Tryz.func65, Tryz.ntmps65
    go_wp2
    go_ret
    exact ⟨rfl, (Gr.refl w).alloc _ _⟩
  · go_enter Tryz.func65, Tryz.ntmps65
    go_wp2
    go_ret
    exact ⟨rfl, (Gr.refl w).alloc _ _⟩
end Go.Proofs.YtleeklcpbflfhaaGreatDoor
namespace Go.Proofs.YtleeklcpbflfhaaGreatDoor
open Go.RowKit

namespace Rm
structure Sl where
  A : Option Addr
  n : Nat
  c : Nat
/- the values of a rule: what it says, and where its lists lie -/
structure Rv where
  r : Ru
  z : ByteArray
  sec : Sl
  min : Sl
  hour : Sl
  day : Sl
  mday : Sl
  yday : Sl
  week : Sl
  month : Sl
  pos : Sl
def Ru.ls (r : Ru) : Nat → List Int
  | 0 => r.sec | 1 => r.min | 2 => r.hour | 3 => r.mday | 4 => r.yday | 5 => r.week | 6 => r.month | _ => r.pos
def Rv.sl (V : Rv) : Nat → Sl
  | 0 => V.sec | 1 => V.min | 2 => V.hour | 3 => V.mday | 4 => V.yday | 5 => V.week | 6 => V.month | _ => V.pos
def off : Nat → Nat
  | 0 => 8 | 1 => 9 | 2 => 10 | 3 => 12 | 4 => 13 | 5 => 14 | 6 => 15 | _ => 16
def lo : Nat → Int
  | 0 => 0 | 1 => 0 | 2 => 0 | 3 => -31 | 4 => -366 | 5 => -53 | 6 => 1 | _ => -366
def hi : Nat → Int
  | 0 => 59 | 1 => 59 | 2 => 23 | 3 => 31 | 4 => 366 | 5 => 53 | 6 => 12 | _ => 366
def nmL : Nat → List UInt8
  | 0 => nBYSECOND | 1 => nBYMINUTE | 2 => nBYHOUR | 3 => nBYMONTHDAY | 4 => nBYYEARDAY | 5 => nBYWEEKNO | 6 => nBYMONTH | _ => nBYSETPOS
theorem may_alw : ∀ i, i < 8 → ∀ n : Int, alw (lo i) (hi i) n = may i n := by
  intro i hi8 n
  rcases (show i = 0 ∨ i = 1 ∨ i = 2 ∨ i = 3 ∨ i = 4 ∨ i = 5 ∨ i = 6 ∨ i = 7 by omega) with rfl | rfl | rfl | rfl | rfl | rfl | rfl | rfl <;>
    (unfold alw may lo hi; rw [Bool.eq_iff_iff]; simp; try omega)
abbrev Sl.v (s : Sl) : Value := .slice s.A s.n s.c
abbrev Rv.val (V : Rv) : Array Value := #[.int .i64 V.r.freq, .int .i64 V.r.ivl, .int .i64 V.r.cnt, .int .i64 V.r.uk, .int .i64 V.r.ua, .string V.z, .bool V.r.has, .int .i64 V.r.st,
  .slice V.sec.A V.sec.n V.sec.c, .slice V.min.A V.min.n V.min.c, .slice V.hour.A V.hour.n V.hour.c, .slice V.day.A V.day.n V.day.c, .slice V.mday.A V.mday.n V.mday.c, .slice V.yday.A V.yday.n V.yday.c,
  .slice V.week.A V.week.n V.week.c, .slice V.month.A V.month.n V.month.c, .slice V.pos.A V.pos.n V.pos.c]
end Rm
/- a list of numbers that is read -/
def Nums (w : World) (B : Nat) (A : Option Addr) (n : Nat) (xs : List Int) : Prop :=
  xs.length = n ∧ (0 < n → ∃ ad : Addr, A = some ad ∧ ad.block < B ∧ ∀ j u, xs[j]? = some u → w.cell? (ad.add j) = some (.int .i64 u))
theorem Nums.nil (w : World) (B : Nat) (A : Option Addr) : Nums w B A 0 [] := ⟨rfl, fun h => absurd h (by omega)⟩
theorem Nums.at_ {w : World} {B : Nat} {A : Option Addr} {n : Nat} {xs : List Int} (h : Nums w B A n xs) {k : Nat} (hk : k < n) :
    ∃ ad : Addr, ∃ hk' : k < xs.length, A = some ad ∧ ad.block < B ∧ w.cell? (ad.add k) = some (.int .i64 xs[k]) := by
  obtain ⟨ad, e, hb, hc⟩ := h.2 (by omega)
  have hl : k < xs.length := by rw [h.1]; exact hk
  exact ⟨ad, hl, e, hb, hc k _ (List.getElem?_eq_getElem hl)⟩
theorem Nums.keep {w w' : World} {B : Nat} {A : Option Addr} {n : Nat} {xs : List Int} (h : Nums w B A n xs) (hb : Below B w w') : Nums w' B A n xs :=
  ⟨h.1, fun hn => by
    obtain ⟨ad, e, hbl, hc⟩ := h.2 hn
    exact ⟨ad, e, hbl, fun j u hu => (hb.cell (by rw [add_block]; exact hbl)).trans (hc j u hu)⟩⟩
theorem Nums.more {w : World} {B B' : Nat} {A : Option Addr} {n : Nat} {xs : List Int} (h : Nums w B A n xs) (hB : B ≤ B') : Nums w B' A n xs :=
  ⟨h.1, fun hn => by
    obtain ⟨ad, e, hbl, hc⟩ := h.2 hn
    exact ⟨ad, e, by omega, hc⟩⟩
theorem Nums.gr {w w' : World} {A : Option Addr} {n : Nat} {xs : List Int} (h : Nums w w.heap.size A n xs) (hg : Gr w w') : Nums w' w'.heap.size A n xs := (h.keep hg.below).more hg.lt
/- weekdays: two cells each -/
abbrev dv1 (p : Int × Int) : Value := .int .i64 p.1
abbrev dv2 (p : Int × Int) : Value := .int .i64 p.2
abbrev Days (w : World) (B : Nat) (A : Option Addr) (n : Nat) (ps : List (Int × Int)) : Prop := Pr2 dv1 dv2 w B A n ps
/- a rule that is read: its lists below B -/
structure RuM (w : World) (B : Nat) (V : Rm.Rv) : Prop where
  z : V.z.data.toList = V.r.uz
  l : ∀ i, i < 8 → Nums w B (V.sl i).A (V.sl i).n (V.r.ls i)
  d : Days w B V.day.A V.day.n V.r.day
theorem RuM.keep {w w' : World} {B : Nat} {V : Rm.Rv} (h : RuM w B V) (hb : Below B w w') : RuM w' B V := ⟨h.z, fun i hi => (h.l i hi).keep hb, h.d.keep hb⟩
theorem RuM.more {w : World} {B B' : Nat} {V : Rm.Rv} (h : RuM w B V) (hB : B ≤ B') : RuM w B' V := ⟨h.z, fun i hi => (h.l i hi).more hB, h.d.more hB⟩
theorem RuM.gr {w w' : World} {V : Rm.Rv} (h : RuM w w.heap.size V) (hg : Gr w w') : RuM w' w'.heap.size V := (h.keep hg.below).more hg.lt
/- the box of a rule -/
structure RBx (w : World) (b : Nat) (V : Rm.Rv) : Prop where
  c0 : w.cell? ⟨b, 0, none⟩ = some (.int .i64 V.r.freq)
  c1 : w.cell? ⟨b, 1, none⟩ = some (.int .i64 V.r.ivl)
  c2 : w.cell? ⟨b, 2, none⟩ = some (.int .i64 V.r.cnt)
  c3 : w.cell? ⟨b, 3, none⟩ = some (.int .i64 V.r.uk)
  c4 : w.cell? ⟨b, 4, none⟩ = some (.int .i64 V.r.ua)
  c5 : w.cell? ⟨b, 5, none⟩ = some (.string V.z)
  c6 : w.cell? ⟨b, 6, none⟩ = some (.bool V.r.has)
  c7 : w.cell? ⟨b, 7, none⟩ = some (.int .i64 V.r.st)
  c8 : w.cell? ⟨b, 8, none⟩ = some (.slice V.sec.A V.sec.n V.sec.c)
  c9 : w.cell? ⟨b, 9, none⟩ = some (.slice V.min.A V.min.n V.min.c)
  c10 : w.cell? ⟨b, 10, none⟩ = some (.slice V.hour.A V.hour.n V.hour.c)
  c11 : w.cell? ⟨b, 11, none⟩ = some (.slice V.day.A V.day.n V.day.c)
  c12 : w.cell? ⟨b, 12, none⟩ = some (.slice V.mday.A V.mday.n V.mday.c)
  c13 : w.cell? ⟨b, 13, none⟩ = some (.slice V.yday.A V.yday.n V.yday.c)
  c14 : w.cell? ⟨b, 14, none⟩ = some (.slice V.week.A V.week.n V.week.c)
  c15 : w.cell? ⟨b, 15, none⟩ = some (.slice V.month.A V.month.n V.month.c)
  c16 : w.cell? ⟨b, 16, none⟩ = some (.slice V.pos.A V.pos.n V.pos.c)
theorem RBx.now (w : World) (V : Rm.Rv) (t : TypeId) : RBx (w.alloc (.cells V.val t)) w.heap.size V := by
  constructor <;> simp
theorem RBx.keep {w w' : World} {b B : Nat} {V : Rm.Rv} (h : RBx w b V) (hg : Below B w w') (hb : b < B) : RBx w' b V := by
  have k : ∀ {o v}, w.cell? ⟨b, o, none⟩ = some v → w'.cell? ⟨b, o, none⟩ = some v := fun h => (hg.cell hb).trans h
  exact ⟨k h.c0, k h.c1, k h.c2, k h.c3, k h.c4, k h.c5, k h.c6, k h.c7, k h.c8, k h.c9, k h.c10, k h.c11, k h.c12, k h.c13, k h.c14, k h.c15, k h.c16⟩
theorem RBx.gr {w w' : World} {b : Nat} {V : Rm.Rv} (h : RBx w b V) (hg : Gr w w') : RBx w' b V := h.keep hg.below (World.block_lt_of_cell? _ _ h.c0)
theorem RBx.at_ {w : World} {b : Nat} {V : Rm.Rv} (h : RBx w b V) {i : Nat} (hi : i < 8) : w.cell? ⟨b, Rm.off i, none⟩ = some (.slice (V.sl i).A (V.sl i).n (V.sl i).c) := by
  rcases (show i = 0 ∨ i = 1 ∨ i = 2 ∨ i = 3 ∨ i = 4 ∨ i = 5 ∨ i = 6 ∨ i = 7 by omega) with rfl | rfl | rfl | rfl | rfl | rfl | rfl | rfl
  · exact h.c8
  · exact h.c9
  · exact h.c10
  · exact h.c12
  · exact h.c13
  · exact h.c14
  · exact h.c15
  · exact h.c16
namespace Rm
/- the eight lists, as numberLists tells them -/
def nlArr (b : Nat) : Array Value := #[
  .string ⟨#[66, 89, 83, 69, 67, 79, 78, 68]⟩, .pointer (some ⟨b, 8, none⟩), .int .i64 0, .int .i64 59,
  .string ⟨#[66, 89, 77, 73, 78, 85, 84, 69]⟩, .pointer (some ⟨b, 9, none⟩), .int .i64 0, .int .i64 59,
  .string ⟨#[66, 89, 72, 79, 85, 82]⟩, .pointer (some ⟨b, 10, none⟩), .int .i64 0, .int .i64 23,
  .string ⟨#[66, 89, 77, 79, 78, 84, 72, 68, 65, 89]⟩, .pointer (some ⟨b, 12, none⟩), .int .i64 (-31), .int .i64 31,
  .string ⟨#[66, 89, 89, 69, 65, 82, 68, 65, 89]⟩, .pointer (some ⟨b, 13, none⟩), .int .i64 (-366), .int .i64 366,
  .string ⟨#[66, 89, 87, 69, 69, 75, 78, 79]⟩, .pointer (some ⟨b, 14, none⟩), .int .i64 (-53), .int .i64 53,
  .string ⟨#[66, 89, 77, 79, 78, 84, 72]⟩, .pointer (some ⟨b, 15, none⟩), .int .i64 1, .int .i64 12,
  .string ⟨#[66, 89, 83, 69, 84, 80, 79, 83]⟩, .pointer (some ⟨b, 16, none⟩), .int .i64 (-366), .int .i64 366]
theorem nl_at (b i : Nat) (hi8 : i < 8) : (nlArr b).extract (i * 4) (i * 4 + 4) = #[.string ⟨(nmL i).toArray⟩, .pointer (some ⟨b, off i, none⟩), .int .i64 (lo i), .int .i64 (hi i)] := by
  rcases (show i = 0 ∨ i = 1 ∨ i = 2 ∨ i = 3 ∨ i = 4 ∨ i = 5 ∨ i = 6 ∨ i = 7 by omega) with rfl | rfl | rfl | rfl | rfl | rfl | rfl | rfl <;> rfl
end Rm
theorem nl_ix (w : World) (b i : Nat) (hi8 : i < 8) : Sem.run Tryz.prog (Instr.index 54 (.agg (Rm.nlArr b)) (.int .i64 (i : Int))) w = .ok (.agg #[.string ⟨(Rm.nmL i).toArray⟩, .pointer (some ⟨b, Rm.off i, none⟩), .int .i64 (Rm.lo i), .int .i64 (Rm.hi i)]) w := by
  rw [run_ixA w (Rm.nlArr b) i 4 Tryz.underlying54 (Tryz.isAgg53 w) (Tryz.sizeOf53 w) hi8, Rm.nl_at b i hi8]
end Go.Proofs.YtleeklcpbflfhaaGreatDoor
namespace Go.Proofs.YtleeklcpbflfhaaGreatDoor
open Go.RowKit

structure After (W : World) where
  wd : World
  gr : Gr W wd
instance afterNonempty (W : World) : Nonempty (After W) := ⟨⟨W, Gr.refl W⟩⟩
theorem wp_region_after {id : Nat} {Q : Exit → Act → World → Prop} {a : Act} {W : World} {l : List Oper} (hm : Tryz.prog.follows .mixedOrders = true) (hB : Region.lexB .any l.toArray = true)
    (h : wpQuiet Tryz.prog l.toArray (fun w' => ∃ u : After W, w' = u.wd) (fun a' => ∀ w', (∃ u : After W, w' = u.wd) → Q .normal a' w') l a) : (Code.region id l.toArray true).wp Tryz.prog Q a W :=
  wp_region_quiet (C := fun w' => ∃ u : After W, w' = u.wd) hm hB ⟨⟨_, (Gr.refl W).drew⟩, rfl⟩ (by simpa using h)
theorem qafter {f : FuncId} {args : Array Value} {W : World} {u : After W} {v : Value} (h : Calls Tryz.prog f args u.wd fun e w' => e = .returned v ∧ Gr u.wd w') :
    Calls Tryz.prog f args u.wd fun e w'' => e = .returned v ∧ ∃ u' : After W, w'' = u'.wd := h.mono fun _ w' ⟨he, hg⟩ => ⟨he, ⟨w', u.gr.trans hg⟩, rfl⟩
theorem after_cell {W : World} {p : Addr} {v : Value} (h : W.cell? p = some v) (u : After W) : u.wd.cell? p = some v := (u.gr.below.cell (World.block_lt_of_cell? _ _ h)).trans h
end Go.Proofs.YtleeklcpbflfhaaGreatDoor
namespace Go.Proofs.YtleeklcpbflfhaaGreatDoor
open Go.RowKit

theorem RowG.put {w : World} {B g n c : Nat} {l : List UInt8} (h : RowG w B g n c l) (j : Nat) (b : UInt8) : RowG (w.setCell ⟨g, j, none⟩ (.int .u8 (b.toNat : Int))) B g n c (l.set j b) := by
  refine ⟨h.new, by rw [List.length_set]; exact h.len, h.le, h.max, fun i hi => ?_, fun i hi => ?_⟩
  · by_cases e : j = i
    · subst e
      obtain ⟨v, hv⟩ := Option.isSome_iff_exists.1 (h.there j (by have := h.le; omega)).1
      rw [World.cell?_setCell_same _ _ _ hv]
      unfold bc
      rw [List.getElem?_map, List.getElem?_set_self (by rw [h.len]; exact hi)]
      rfl
    · rw [World.cell?_setCell_other (h := fun e2 => e (congrArg Addr.off e2)), h.holds i hi]
      unfold bc
      rw [List.getElem?_map, List.getElem?_map, List.getElem?_set_ne e]
  · obtain ⟨h1, h2⟩ := h.there i hi
    refine ⟨?_, by rw [World.frozen?_setCell]; exact h2⟩
    by_cases e : j = i
    · subst e
      obtain ⟨v, hv⟩ := Option.isSome_iff_exists.1 h1
      rw [World.cell?_setCell_same _ _ _ hv]; rfl
    · rw [World.cell?_setCell_other (h := fun e2 => e (congrArg Addr.off e2))]; exact h1
theorem up_int (b : UInt8) : ((Rm.up b).toNat : Int) = if 97 ≤ (b.toNat : Int) ∧ (b.toNat : Int) ≤ 122 then (b.toNat : Int) - 32 else (b.toNat : Int) := by
  unfold Rm.up
  by_cases h : 97 ≤ b.toNat ∧ b.toNat ≤ 122
  · rw [if_pos h, if_pos (by omega), UInt8.toNat_sub_of_le _ _ (by rw [UInt8.le_iff_toNat_le]; show 32 ≤ b.toNat; omega)]
    show ((b.toNat - 32 : Nat) : Int) = _
    omega
  · rw [if_neg h, if_neg (by omega)]
theorem up_hi {b : UInt8} (h : (97 : Int) ≤ (b.toNat : Int)) (h2 : (b.toNat : Int) ≤ 122) : ((Rm.up b).toNat : Int) = (b.toNat : Int) - 32 := by rw [up_int, if_pos ⟨h, h2⟩]
theorem up_lo {b : UInt8} (h : ¬ ((97 : Int) ≤ (b.toNat : Int) ∧ (b.toNat : Int) ≤ 122)) : Rm.up b = b := by
  apply UInt8.toNat_inj.1
  have := up_int b
  rw [if_neg h] at this
  omega
set_option maxHeartbeats 4000000 in
set_option maxRecDepth 100000 in
theorem rupper_any (s : ByteArray) (w : World) (hs : s.size ≤ 1000000) :
    Calls Tryz.prog 35 #[.string s] w fun e w' => e = .returned (.string ⟨(s.data.toList.map Rm.up).toArray⟩) ∧ Gr w w' := by
  obtain ⟨c, w1, hcv, hrow, hg1⟩ := conv_row w s hs
  have HSZ := Lib.hid (Lib.size_eq s)
  go_enter Tryz.func35, Tryz.ntmps35
  go_wp2
  go_loopg [10] s.size (fun g v wx => ∃ k : Nat, v = .int .i64 (k : Int) ∧ k + g = s.size ∧ RowG wx w.heap.size w.heap.size s.size c ((s.data.toList.take k).map Rm.up ++ s.data.toList.drop k) ∧ Below w.heap.size w wx)
  case atStart => exact ⟨0, rfl, by omega, by simpa using hrow, hg1.below⟩
  case round =>
    obtain ⟨k, rfl, hkg, hr, hbx⟩ := hrel
    have HG := Lib.hid hkg
    clear hkg hcv hrow
    by_cases hk : k < s.size
    · have hk' : k < s.data.toList.length := by rw [← HSZ.out]; exact hk
      have hbk : s.data.toList[k]? = some s[k] := at_toNat s k hk
      have hbk2 : s.data.toList[k] = s[k] := by rw [List.getElem?_eq_getElem hk'] at hbk; exact Option.some.inj hbk
      have hdr : s.data.toList.drop k = s[k] :: s.data.toList.drop (k + 1) := by rw [List.drop_eq_getElem_cons hk', hbk2]
      have hml : ((s.data.toList.take k).map Rm.up).length = k := by rw [List.length_map, List.length_take]; omega
      have hce0 := hr.holds k hk
      have hfz := (hr.there k (by have := hr.le; omega)).2
      unfold bc at hce0
      rw [List.getElem?_map, hdr, List.getElem?_append_right (by omega), hml, Nat.sub_self] at hce0
      have hce : wr.cell? ⟨w.heap.size, k, none⟩ = some (.int .u8 (s[k].toNat : Int)) := hce0
      clear hce0
      have hkc : (k : Int) < (s.size : Int) := by omega
      have hTK : (s.data.toList.take (k + 1)).map Rm.up = (s.data.toList.take k).map Rm.up ++ [Rm.up s[k]] := by rw [List.take_succ_eq_append_getElem hk', List.map_append, hbk2]; rfl
      have hput := hr.put k (Rm.up s[k])
      have hset : ((s.data.toList.take k).map Rm.up ++ s.data.toList.drop k).set k (Rm.up s[k]) = (s.data.toList.take (k + 1)).map Rm.up ++ s.data.toList.drop (k + 1) := by
        rw [hdr, hTK, List.set_append, if_neg (by omega), hml, Nat.sub_self]
        simp
      rw [hset] at hput
      have HUP := Lib.hid (@up_hi s[k])
      have HLO := Lib.hid (@up_lo s[k])
      have HDT := Lib.hid (And.intro hdr hTK)
      have hb0 : (0 : Int) ≤ (s[k].toNat : Int) := by omega
      have hb1 : (s[k].toNat : Int) ≤ 255 := by have := s[k].toNat_lt; omega
      clear hset hml hdr hTK hbk hbk2
      generalize s[k] = b at *
      by_cases h1 : (97 : Int) ≤ (b.toNat : Int)
      · by_cases h2 : (b.toNat : Int) ≤ 122
        · have hup := HUP.out h1 h2
          have hval : (b.toNat : Int) - 97 + 65 = ((Rm.up b).toNat : Int) := by omega
          clear HUP HLO hup
          go_wp2
          go_roundg (s.size - (k + 1))
          case measure => have := HG.out; omega
          case rel =>
            refine ⟨k + 1, by go_num, by omega, ?_, ?_⟩
            · simpa [hval] using hput
            · exact hbx.setCell (p := ⟨w.heap.size, k, none⟩) (Nat.le_refl _) _
        · have hlo := HLO.out (fun h => h2 h.2)
          have HR2 : Hid ((s.data.toList.take (k + 1)).map Rm.up ++ s.data.toList.drop (k + 1) = (s.data.toList.take k).map Rm.up ++ s.data.toList.drop k) := Lib.hid (by rw [HDT.out.1, HDT.out.2, hlo]; simp)
          clear HUP HLO hlo hput
          go_wp2
          go_roundg (s.size - (k + 1))
          case measure => have := HG.out; omega
          case rel => exact ⟨k + 1, by go_num, by omega, by rw [HR2.out]; exact hr, hbx⟩
      · have hlo := HLO.out (fun h => h1 h.1)
        have HR2 : Hid ((s.data.toList.take (k + 1)).map Rm.up ++ s.data.toList.drop (k + 1) = (s.data.toList.take k).map Rm.up ++ s.data.toList.drop k) := Lib.hid (by rw [HDT.out.1, HDT.out.2, hlo]; simp)
        clear HUP HLO hlo hput
        go_wp2
        go_roundg (s.size - (k + 1))
        case measure => have := HG.out; omega
        case rel => exact ⟨k + 1, by go_num, by omega, by rw [HR2.out]; exact hr, hbx⟩
    · obtain rfl : k = s.size := by have := HG.out; omega
      rw [List.take_of_length_le (by rw [HSZ.out]; exact Nat.le_refl _), List.drop_eq_nil_of_le (by rw [HSZ.out]; exact Nat.le_refl _), List.append_nil] at hr
      have hcb := conv_backG hr
      go_wp2
      go_ret
      exact ⟨rfl, ⟨hbx⟩⟩
end Go.Proofs.YtleeklcpbflfhaaGreatDoor
namespace Go.Proofs.YtleeklcpbflfhaaGreatDoor
open Go.RowKit

set_option maxHeartbeats 1000000 in
theorem eqI_any (A A2 : Option Addr) (n c n2 c2 : Nat) (ls ms : List Int) (w : World) (hS : Nums w w.heap.size A n ls) (hS2 : Nums w w.heap.size A2 n2 ms) (hn : n ≤ 140737488355328) (q : Bool) (hq : q = true ↔ ls = ms) :
    Calls Tryz.prog 41 #[.slice A n c, .slice A2 n2 c2] w fun e w' => e = .returned (.bool q) ∧ ∃ d, w' = w.drewN d := by
  have hl : ls.length = n := hS.1
  have hl2 : ms.length = n2 := hS2.1
  by_cases hnn : n = n2
  · subst hnn
    have HL := Lib.hid (And.intro hl hl2)
    have HQ := Lib.hid hq
    clear hl hl2 hq
    go_enter Tryz.func41, Tryz.ntmps41
    go_wp2
    go_loopg [13] n (fun g v wx => ∃ k : Nat, v = .int .i64 (k : Int) ∧ k + g = n ∧ (∃ d, wx = w.drewN d) ∧ Hid (ls.take k = ms.take k))
    case atStart => exact ⟨0, rfl, by omega, ⟨0, rfl⟩, Lib.hid (by simp)⟩
    case round =>
      obtain ⟨k, rfl, hkg, ⟨d, rfl⟩, HT⟩ := hrel
      have HG := Lib.hid hkg
      clear hkg
      by_cases hk : k < n
      · obtain ⟨ad, hk', rfl, hbl, hcell⟩ := hS.at_ hk
        obtain ⟨ad2, hk2, rfl, hbl2, hcell2⟩ := hS2.at_ hk
        have HT1 := Lib.hid (List.take_succ_eq_append_getElem hk')
        have HT2 := Lib.hid (List.take_succ_eq_append_getElem hk2)
        have HX := Lib.hid (fun (h : ls = ms) => show ls[k] = ms[k] by subst h; rfl)
        by_cases he : ls[k] = ms[k]
        · have HE : Hid (ls.take (k + 1) = ms.take (k + 1)) := Lib.hid (by rw [HT1.out, HT2.out, HT.out, he])
          rw [he] at hcell
          clear he HX HT1 HT2
          generalize ms[k] = y at *
          go_wp2
          go_quiet (fail)
          go_wp2
          go_roundg (n - (k + 1))
          case measure => have := HG.out; omega
          case rel => exact ⟨k + 1, by go_num, by omega, ⟨_, rfl⟩, HE⟩
        · have HE : Hid (q = false) := Lib.hid (by
            cases hc : q
            · rfl
            · exact absurd (HX.out (HQ.out.1 hc)) he)
          clear HX HT1 HT2
          generalize ls[k] = x at *
          generalize ms[k] = y at *
          have hs1 : (x == y) = false := beq_eq_false_iff_ne.2 he
          clear he
          go_wp2
          go_quiet (fail)
          go_wp2
          go_ret
          exact ⟨ret_bool HE.out.symm, _, World.drewN_drewN _ _ _⟩
      · obtain rfl : k = n := by have := HG.out; omega
        have HE : Hid (q = true) := Lib.hid (HQ.out.2 (by
          have h := HT.out
          rwa [List.take_of_length_le (by rw [HL.out.1]; exact Nat.le_refl _), List.take_of_length_le (by rw [HL.out.2]; exact Nat.le_refl _)] at h))
        go_wp2
        go_ret
        exact ⟨ret_bool HE.out.symm, d, rfl⟩
  · have HE : Hid (q = false) := Lib.hid (by
      cases hc : q
      · rfl
      · exact absurd (by rw [← hl, ← hl2, hq.1 hc]) hnn)
    have hne : ((n : Int) == (n2 : Int)) = false := by rw [beq_eq_false_iff_ne]; omega
    clear hl hl2 hq hnn
    go_enter Tryz.func41, Tryz.ntmps41
    go_wp2
    go_ret
    exact ⟨ret_bool HE.out.symm, 0, rfl⟩
set_option maxHeartbeats 1000000 in
theorem ints_any (A A2 : Option Addr) (n c n2 c2 : Nat) (ls ms : List Int) (w : World) (hS : Nums w w.heap.size A n ls) (hS2 : Nums w w.heap.size A2 n2 ms) (hn : n ≤ 140737488355328) (q : Bool) (hq : q = true ↔ ls = ms) :
    Calls Tryz.prog 40 #[.slice A n c, .slice A2 n2 c2] w fun e w' => e = .returned (.bool q) ∧ ∃ d, w' = w.drewN d := by
  have hl : ls.length = n := hS.1
  have hl2 : ms.length = n2 := hS2.1
  by_cases hnn : n = n2
  · subst hnn
    have HL := Lib.hid (And.intro hl hl2)
    have HQ := Lib.hid hq
    clear hl hl2 hq
    go_enter Tryz.func40, Tryz.ntmps40
    go_wp2
    go_loopg [13] n (fun g v wx => ∃ k : Nat, v = .int .i64 (k : Int) ∧ k + g = n ∧ (∃ d, wx = w.drewN d) ∧ Hid (ls.take k = ms.take k))
    case atStart => exact ⟨0, rfl, by omega, ⟨0, rfl⟩, Lib.hid (by simp)⟩
    case round =>
      obtain ⟨k, rfl, hkg, ⟨d, rfl⟩, HT⟩ := hrel
      have HG := Lib.hid hkg
      clear hkg
      by_cases hk : k < n
      · obtain ⟨ad, hk', rfl, hbl, hcell⟩ := hS.at_ hk
        obtain ⟨ad2, hk2, rfl, hbl2, hcell2⟩ := hS2.at_ hk
        have HT1 := Lib.hid (List.take_succ_eq_append_getElem hk')
        have HT2 := Lib.hid (List.take_succ_eq_append_getElem hk2)
        have HX := Lib.hid (fun (h : ls = ms) => show ls[k] = ms[k] by subst h; rfl)
        by_cases he : ls[k] = ms[k]
        · have HE : Hid (ls.take (k + 1) = ms.take (k + 1)) := Lib.hid (by rw [HT1.out, HT2.out, HT.out, he])
          rw [he] at hcell
          clear he HX HT1 HT2
          generalize ms[k] = y at *
          go_wp2
          go_quiet (fail)
          go_wp2
          go_roundg (n - (k + 1))
          case measure => have := HG.out; omega
          case rel => exact ⟨k + 1, by go_num, by omega, ⟨_, rfl⟩, HE⟩
        · have HE : Hid (q = false) := Lib.hid (by
            cases hc : q
            · rfl
            · exact absurd (HX.out (HQ.out.1 hc)) he)
          clear HX HT1 HT2
          generalize ls[k] = x at *
          generalize ms[k] = y at *
          have hs1 : (x == y) = false := beq_eq_false_iff_ne.2 he
          clear he
          go_wp2
          go_quiet (fail)
          go_wp2
          go_ret
          exact ⟨ret_bool HE.out.symm, _, World.drewN_drewN _ _ _⟩
      · obtain rfl : k = n := by have := HG.out; omega
        have HE : Hid (q = true) := Lib.hid (HQ.out.2 (by
          have h := HT.out
          rwa [List.take_of_length_le (by rw [HL.out.1]; exact Nat.le_refl _), List.take_of_length_le (by rw [HL.out.2]; exact Nat.le_refl _)] at h))
        go_wp2
        go_ret
        exact ⟨ret_bool HE.out.symm, d, rfl⟩
  · have HE : Hid (q = false) := Lib.hid (by
      cases hc : q
      · rfl
      · exact absurd (by rw [← hl, ← hl2, hq.1 hc]) hnn)
    have hne : ((n : Int) == (n2 : Int)) = false := by rw [beq_eq_false_iff_ne]; omega
    clear hl hl2 hq hnn
    go_enter Tryz.func40, Tryz.ntmps40
    go_wp2
    go_ret
    exact ⟨ret_bool HE.out.symm, 0, rfl⟩
set_option maxHeartbeats 1000000 in
theorem eqD_any (A A2 : Option Addr) (n c n2 c2 : Nat) (ls ms : List (Int × Int)) (w : World) (hS : Days w w.heap.size A n ls) (hS2 : Days w w.heap.size A2 n2 ms) (hn : n ≤ 140737488355328) (q : Bool) (hq : q = true ↔ ls = ms) :
    Calls Tryz.prog 42 #[.slice A n c, .slice A2 n2 c2] w fun e w' => e = .returned (.bool q) ∧ ∃ d, w' = w.drewN d := by
  have hl : ls.length = n := hS.1
  have hl2 : ms.length = n2 := hS2.1
  by_cases hnn : n = n2
  · subst hnn
    have HL := Lib.hid (And.intro hl hl2)
    have HQ := Lib.hid hq
    clear hl hl2 hq
    go_enter Tryz.func42, Tryz.ntmps42
    go_wp2
    go_loopg [13] n (fun g v wx => ∃ k : Nat, v = .int .i64 (k : Int) ∧ k + g = n ∧ (∃ d, wx = w.drewN d) ∧ Hid (ls.take k = ms.take k))
    case atStart => exact ⟨0, rfl, by omega, ⟨0, rfl⟩, Lib.hid (by simp)⟩
    case round =>
      obtain ⟨k, rfl, hkg, ⟨d, rfl⟩, HT⟩ := hrel
      have HG := Lib.hid hkg
      clear hkg
      by_cases hk : k < n
      · obtain ⟨ad, hk', rfl, hbl, hcell0, hcell1⟩ := hS.at_ hk
        obtain ⟨ad2, hk2, rfl, hbl2, hcell20, hcell21⟩ := hS2.at_ hk
        have HT1 := Lib.hid (List.take_succ_eq_append_getElem hk')
        have HT2 := Lib.hid (List.take_succ_eq_append_getElem hk2)
        have HX := Lib.hid (fun (h : ls = ms) => show ls[k] = ms[k] by subst h; rfl)
        by_cases he : ls[k] = ms[k]
        · have HE : Hid (ls.take (k + 1) = ms.take (k + 1)) := Lib.hid (by rw [HT1.out, HT2.out, HT.out, he])
          rw [he] at hcell0 hcell1
          clear he HX HT1 HT2
          generalize ms[k] = y at *
          obtain ⟨y1, y2⟩ := y
          dsimp only [dv1, dv2] at *
          go_wp2
          go_quiet (fail)
          go_wp2
          go_roundg (n - (k + 1))
          case measure => have := HG.out; omega
          case rel => exact ⟨k + 1, by go_num, by omega, ⟨_, rfl⟩, HE⟩
        · have HE : Hid (q = false) := Lib.hid (by
            cases hc : q
            · rfl
            · exact absurd (HX.out (HQ.out.1 hc)) he)
          clear HX HT1 HT2
          generalize ls[k] = x at *
          generalize ms[k] = y at *
          obtain ⟨x1, x2⟩ := x
          obtain ⟨y1, y2⟩ := y
          dsimp only [dv1, dv2] at *
          by_cases h1 : x1 = y1
          · subst h1
            have h2 : ¬ x2 = y2 := fun h => he (by rw [h])
            clear he
            go_wp2
            go_quiet (fail)
            go_wp2
            go_ret
            exact ⟨ret_bool HE.out.symm, _, World.drewN_drewN _ _ _⟩
          · clear he
            go_wp2
            go_quiet (fail)
            go_wp2
            go_ret
            exact ⟨ret_bool HE.out.symm, _, World.drewN_drewN _ _ _⟩
      · obtain rfl : k = n := by have := HG.out; omega
        have HE : Hid (q = true) := Lib.hid (HQ.out.2 (by
          have h := HT.out
          rwa [List.take_of_length_le (by rw [HL.out.1]; exact Nat.le_refl _), List.take_of_length_le (by rw [HL.out.2]; exact Nat.le_refl _)] at h))
        go_wp2
        go_ret
        exact ⟨ret_bool HE.out.symm, d, rfl⟩
  · have HE : Hid (q = false) := Lib.hid (by
      cases hc : q
      · rfl
      · exact absurd (by rw [← hl, ← hl2, hq.1 hc]) hnn)
    have hne : ((n : Int) == (n2 : Int)) = false := by rw [beq_eq_false_iff_ne]; omega
    clear hl hl2 hq hnn
    go_enter Tryz.func42, Tryz.ntmps42
    go_wp2
    go_ret
    exact ⟨ret_bool HE.out.symm, 0, rfl⟩
end Go.Proofs.YtleeklcpbflfhaaGreatDoor
