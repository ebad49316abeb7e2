/- Rows of bytes and of the reference's terms that a call owns. -/
import Derived.Test.YtafpdiikhhikeaaDoorChecked
import Derived.Test.YtafpdiikhhikeaaDoorGr
import Derived.Test.YtafpdiikhhikeaaDoorVd
import Derived.Lib.AppendStr
import Derived.Laws.OwnMore
import Derived.Laws.IdiomStrings
import Derived.OwnWalk
import Derived.Deep.AppendLies
namespace Go.Proofs.YtafpdiikhhikeaaDoor
open Go.RowKit

/- the slice (A, n, c) owns the cells xs, k a place, in a block from B on -/
def OwnK (w : World) (B : Nat) (e : TypeId) (k : Nat) (A : Option Addr) (n c : Nat) (xs : List Value) : Prop := w.ownsRow B e k (.slice A n c) n xs
theorem OwnK.nil (w : World) (B : Nat) (e : TypeId) (k : Nat) : OwnK w B e k none 0 0 [] := World.ownsRow_nil _ _ _ _
theorem OwnK.gr {w w' : World} {B : Nat} {e : TypeId} {k : Nat} {A : Option Addr} {n c : Nat} {xs : List Value} (h : OwnK w B e k A n c xs) (hg : Gr w w') : OwnK w' B e k A n c xs := by
  refine ⟨h.1, ?_⟩
  rcases h.2 with hn | ⟨g, cap, cur, hv, hb, hh, rest⟩
  · exact .inl hn
  · exact .inr ⟨g, cap, cur, hv, hb, (hg.below.block g (Array.getElem?_eq_some_iff.1 hh).1).trans hh, rest⟩
theorem below_of_own {w w' : World} {B : Nat} {e : TypeId} {k : Nat} {v : Value} {n : Nat} {xs : List Value} (h : w.ownsRow B e k v n xs) (hB : B ≤ w.heap.size) (hg : w.grownBy w' v.ownBlock) : Below B w w' :=
  (Below.refl B w).grown hg hB (fun k hk => (h.lt k hk).1)

/- terms as cells -/
def cel : List (Nat × UInt8) → List Value
  | [] => []
  | p :: t => .int .i64 (p.1 : Int) :: .int .u8 (p.2.toNat : Int) :: cel t
theorem cel_app : ∀ (a b : List (Nat × UInt8)), cel (a ++ b) = cel a ++ cel b
  | [], _ => rfl
  | p :: a, b => by rw [List.cons_append, cel, cel_app a b, cel]; rfl
theorem cel_at : ∀ (t : List (Nat × UInt8)) (j : Nat) (p : Nat × UInt8), t[j]? = some p → (cel t)[j * 2]? = some (.int .i64 (p.1 : Int)) ∧ (cel t)[j * 2 + 1]? = some (.int .u8 (p.2.toNat : Int))
  | [], j, p, h => by simp at h
  | q :: t, 0, p, h => by
    obtain rfl : q = p := by simpa using h
    exact ⟨rfl, rfl⟩
  | q :: t, j + 1, p, h => by
    have := cel_at t j p (by simpa using h)
    rw [show (j + 1) * 2 = j * 2 + 1 + 1 by omega]
    simpa [cel] using this
theorem cel_len : ∀ t : List (Nat × UInt8), (cel t).length = t.length * 2
  | [] => rfl
  | p :: t => by rw [cel, List.length_cons, List.length_cons, cel_len t, List.length_cons]; omega
theorem info_term : (Tryd.prog.info? 53).map (fun i => (i.zero, i.size, i.bytes)) = some (some (.agg #[.int .i64 0, .int .u8 0]), 2, 16) := by kernel_rfl
/- append(out, term) inside a region that draws its order -/
theorem st_term {ops : Array Oper} {o : Oper} {a : Act} {K : Act → World → Prop} {Q : Exit → Act → World → Prop} {E : Prop} (w : World) (hgd : o.guard = none) (sl x : Operand)
    (ho : o.op = .call { callee := .builtin .append, args := #[sl, x], argTypes := #[49, 49] })
    (B : Nat) (A : Option Addr) (n c : Nat) (t : List (Nat × UInt8)) (hs : a.eval sl = .slice A n c) (hown : OwnK w B 53 2 A n c (cel t)) (p : Nat × UInt8) (hx : a.eval x = .slice (some ⟨w.heap.size, 0, none⟩) 1 1)
    (hlen : n + 1 ≤ 1000000) (hB : B ≤ w.heap.size)
    (h : ∀ A' c' w', OwnK w' B 53 2 A' (n + 1) c' (cel (t ++ [p])) → Below B w w' → K (a.put o.dst (.slice A' (n + 1) c')) w') :
    if Region.wanted o (yielded ops a.tmps) = true then Oper.wp Tryd.prog o a (w.alloc (.cells #[.int .i64 (p.1 : Int), .int .u8 (p.2.toNat : Int)] 53)).drew K Q else E := by
  obtain ⟨i0, hi, hz0, hz1, hz2⟩ := info_parts info_term
  have hsz : (w.alloc (.cells #[.int .i64 (p.1 : Int), .int .u8 (p.2.toNat : Int)] 53)).drew.heap.size = w.heap.size + 1 := by simp
  have hown2 : (w.alloc (.cells #[.int .i64 (p.1 : Int), .int .u8 (p.2.toNat : Int)] 53)).drew.ownsRow B 53 2 (.slice A n c) n (cel t) := World.ownsRow.alloc hown _
  refine step_append_lies _ hgd sl x 49 ho B 53 i0 _ 2 16 Tryd.underlying49 hi hz0 hz1 hz2 rfl (by omega) (.slice A n c) n (cel t) hs hown2 ⟨w.heap.size, 0, none⟩ 1 1 [.int .i64 (p.1 : Int), .int .u8 (p.2.toNat : Int)] hx rfl
    (World.news_of_block (cs := #[.int .i64 (p.1 : Int), .int .u8 (p.2.toNat : Int)]) (t := 53) (fr := (0, 0)) (heap_alloc_new w _)) (by simp [Value.oneCell']) (by omega) (by unfold maxLen; omega) (by omega) (by omega) (w.heap.size + 1) (by simp) ?_
  intro g cap w' h1 h2 _ _
  refine h _ _ w' ?_ (((Below.refl B w).alloc hB _).drew.trans (below_of_own hown2 (by omega) h2))
  rw [cel_app]
  exact h1
/- terms that are read -/
def Tms (w : World) (A : Option Addr) (n : Nat) (t : List (Nat × UInt8)) : Prop :=
  t.length = n ∧ (0 < n → ∃ g : Nat, A = some ⟨g, 0, none⟩ ∧ g < w.heap.size ∧ ∀ j p, t[j]? = some p → w.cell? ⟨g, j * 2, none⟩ = some (.int .i64 (p.1 : Int)) ∧ w.cell? ⟨g, j * 2 + 1, none⟩ = some (.int .u8 (p.2.toNat : Int)))
theorem Tms.nil (w : World) (A : Option Addr) : Tms w A 0 [] := ⟨rfl, fun h => absurd h (by omega)⟩
theorem Tms.gr {w w' : World} {A : Option Addr} {n : Nat} {t : List (Nat × UInt8)} (h : Tms w A n t) (hg : Gr w w') : Tms w' A n t :=
  ⟨h.1, fun hn => by
    obtain ⟨g, e, hb, hc⟩ := h.2 hn
    exact ⟨g, e, Nat.lt_of_lt_of_le hb hg.lt, fun j p hp => ⟨hg.keeps hb (hc j p hp).1, hg.keeps hb (hc j p hp).2⟩⟩⟩
theorem add_nil (g j : Nat) : (⟨g, 0, none⟩ : Addr).add j = ⟨g, j, none⟩ := by unfold Addr.add; split <;> simp_all
theorem OwnK.tms {w : World} {B : Nat} {A : Option Addr} {n c : Nat} {t : List (Nat × UInt8)} (h : OwnK w B 53 2 A n c (cel t)) : Tms w A n t := by
  have hl : t.length = n := by
    have := h.1
    rw [cel_len] at this
    omega
  refine ⟨hl, fun hn => ?_⟩
  obtain ⟨g, cap, hv, hb, hlt⟩ := World.ownsRow.form h hn
  injection hv with h4
  subst h4
  refine ⟨g, rfl, hlt, fun j p hp => ?_⟩
  obtain ⟨g1, g2⟩ := cel_at t j p hp
  have hc := World.ownsRow.cells (g := g) h rfl
  have e1 := hc _ _ g1
  have e2 := hc _ _ g2
  rw [add_nil] at e1 e2
  exact ⟨e1, e2⟩
/- bytes as cells; append(out, two bytes) -/
def bc (l : List UInt8) : List Value := l.map fun b => Value.int .u8 (b.toNat : Int)
theorem bc_append (a b : List UInt8) : bc (a ++ b) = bc a ++ bc b := by simp [bc]
theorem info_u8 : (Tryd.prog.info? 5).map (fun i => (i.zero, i.size, i.bytes)) = some (some (.int .u8 0), 1, 1) := by kernel_rfl
theorem own_formK {w : World} {B : Nat} {e : TypeId} {k : Nat} {v : Value} {n : Nat} {xs : List Value} (h : w.ownsRow B e k v n xs) : ∃ A c, v = .slice A n c := by
  rcases h.2 with ⟨rfl, rfl⟩ | ⟨g, cap, cur, rfl, _⟩
  · exact ⟨_, _, rfl⟩
  · exact ⟨_, _, rfl⟩
theorem convB {w : World} {B : Nat} {A : Option Addr} {n c : Nat} {l : List UInt8} (h : OwnK w B 5 1 A n c (bc l)) (h0 : 0 < n) : (convert 54 9 (.slice A n c)).run Tryd.prog w = .ok (.string ⟨l.toArray⟩) w := by
  have hl : l.length = n := by have := h.1; simpa [bc] using this
  obtain ⟨g, cap, hv, hb, hlt⟩ := World.ownsRow.form h h0
  injection hv with h4
  subst h4 hl
  refine run_convert_bytes_back w 54 9 5 ⟨g, 0, none⟩ c l Tryd.underlying54 Tryd.underlying5 Tryd.underlying9 (fun j hj => World.ownsRow.cells (g := g) h rfl j _ ?_)
  unfold bc
  rw [List.getElem?_map, List.getElem?_eq_getElem hj]
  rfl
theorem ap_pair {ops : Array Oper} {rest : List Oper} {o : Oper} {a : Act} {Q : Exit → Act → World → Prop} (w : World) (hgd : o.guard = none) (sl x : Operand)
    (ho : o.op = .call { callee := .builtin .append, args := #[sl, x], argTypes := #[54, 54] })
    (B : Nat) (A : Option Addr) (n c : Nat) (l : List UInt8) (hs : a.eval sl = .slice A n c) (hown : OwnK w B 5 1 A n c (bc l)) (x1 x2 : UInt8) (hx : a.eval x = .slice (some ⟨w.heap.size, 0, none⟩) 2 2)
    (hlen : n + 2 ≤ 1000000) (hB : B ≤ w.heap.size)
    (h : ∀ A' c' w', OwnK w' B 5 1 A' (n + 2) c' (bc (l ++ [x1, x2])) → Below B w w' → wpList Tryd.prog ops Q rest (a.put o.dst (.slice A' (n + 2) c')) w') :
    wpList Tryd.prog ops Q (o :: rest) a (w.alloc (.cells #[.int .u8 (x1.toNat : Int), .int .u8 (x2.toNat : Int)] 5)) := by
  obtain ⟨i0, hi, hz0, hz1, hz2⟩ := info_parts info_u8
  have hsz : (w.alloc (.cells #[.int .u8 (x1.toNat : Int), .int .u8 (x2.toNat : Int)] 5)).heap.size = w.heap.size + 1 := by simp
  have hown2 := World.ownsRow.alloc hown (.cells #[.int .u8 (x1.toNat : Int), .int .u8 (x2.toNat : Int)] 5)
  refine wpList_append_lies _ hgd sl x 54 ho B 5 i0 _ 1 1 Tryd.underlying54 hi hz0 hz1 hz2 rfl (by omega) (.slice A n c) n (bc l) hs hown2 ⟨w.heap.size, 0, none⟩ 2 2 [.int .u8 (x1.toNat : Int), .int .u8 (x2.toNat : Int)] hx rfl
    (World.news_of_block (cs := #[.int .u8 (x1.toNat : Int), .int .u8 (x2.toNat : Int)]) (t := 5) (fr := (0, 0)) (heap_alloc_new w _)) (by simp [Value.oneCell']) (by omega) (by unfold maxLen; omega) (by omega) (by omega) (w.heap.size + 1) (by simp) ?_
  intro g cap w' g1 g2 g3 _
  refine h _ _ w' ?_ (((Below.refl B w).alloc hB _).trans (below_of_own hown2 (by omega) g2))
  rw [bc_append]
  exact g1
end Go.Proofs.YtafpdiikhhikeaaDoor
