/- A reader's box, and what take returns. -/
import Derived.Test.YtpcmhaflmpcicaaDoorLnLeaf
import Derived.BigQuiet
import Derived.Deep.AppendLies
import Derived.Maps.AppendAt
namespace Go.Proofs.YtpcmhaflmpcicaaDoor
open Go.RowKit

/- the reader in block b reads the text s and has come to place i -/
structure RB (w : World) (b : Nat) (s : ByteArray) (i : Nat) : Prop where
  c0 : w.cell? ⟨b, 0, none⟩ = some (.string s)
  c1 : w.cell? ⟨b, 1, none⟩ = some (.int .i64 (i : Int))
  free : w.frozen? ⟨b, 1, none⟩ = false
theorem RB.lt {w : World} {b : Nat} {s : ByteArray} {i : Nat} (h : RB w b s i) : b < w.heap.size := World.block_lt_of_cell? _ _ h.c0
theorem RB.keep {w w' : World} {b : Nat} {s : ByteArray} {i : Nat} (h : RB w b s i) (hg : Gr w w') : RB w' b s i :=
  ⟨hg.keeps h.lt h.c0, hg.keeps h.lt h.c1, (hg.frozen h.lt).trans h.free⟩
theorem RB.drew {w : World} {b : Nat} {s : ByteArray} {i : Nat} (h : RB w b s i) (n : Nat) : RB (w.drewN n) b s i := h.keep ((Gr.refl w).drewN n)
theorem RB.set {w : World} {b : Nat} {s : ByteArray} {i : Nat} (h : RB w b s i) (j : Nat) : RB (w.setCell ⟨b, 1, none⟩ (.int .i64 (j : Int))) b s j :=
  ⟨by rw [World.cell?_setCell_other (h := by simp)]; exact h.c0, World.cell?_setCell_same _ _ _ h.c1, by rw [World.frozen?_setCell]; exact h.free⟩
/- all but block b is as it was -/
def Mv (b : Nat) (w w' : World) : Prop := w.grownBy w' (some b)
theorem Gr.mv {w w' : World} (h : Gr w w') (b : Nat) : Mv b w w' := ⟨h.below.os, h.below.tape, h.below.output, h.below.size, fun i hi _ => h.below.block i hi⟩
theorem Mv.refl (b : Nat) (w : World) : Mv b w w := (Gr.refl w).mv b
theorem Mv.trans {b : Nat} {w w1 w2 : World} (h : Mv b w w1) (k : Mv b w1 w2) : Mv b w w2 := World.grownBy.trans h k
theorem Mv.set (b : Nat) (w : World) (o : Nat) (v : Value) : Mv b w (w.setCell ⟨b, o, none⟩ v) :=
  ⟨rfl, rfl, rfl, by simp [World.setCell], fun i _ hne => Below.heap_setCell _ _ _ _ (fun e => hne (by rw [e]))⟩
theorem Mv.drewN {b : Nat} {w w' : World} (h : Mv b w w') (n : Nat) : Mv b w (w'.drewN n) := h.trans (((Gr.refl w').drewN n).mv b)
theorem Mv.low {b B : Nat} {w w' : World} (h : Mv b w w') (hb : B ≤ b) (hB : B ≤ w.heap.size) : Below B w w' := ⟨h.os, h.tape, h.output, h.size, fun k hk => h.block k (by omega) (fun e => by cases e; omega)⟩
theorem Mv.lt {b : Nat} {w w' : World} (h : Mv b w w') : w.heap.size ≤ w'.heap.size := h.size

set_option maxHeartbeats 1000000 in
theorem take_end_ (b : Nat) (s : ByteArray) (c : Int) (w : World) (h : RB w b s s.size) :
    Calls Tryd.prog 42 #[.pointer (some ⟨b, 0, none⟩), .int .u8 c] w fun e w' => e = .returned (.bool false) ∧ Gr w w' := by
  obtain ⟨h0, h1, h2⟩ := h
  go_enter Tryd.func42, Tryd.ntmps42
  go_wp2
  go_quiet (fail)
  go_wp2
  go_ret
  exact ⟨rfl, (Gr.refl _).drewN _⟩
set_option maxHeartbeats 1000000 in
theorem take_no (b : Nat) (s : ByteArray) (i : Nat) (c : Int) (w : World) (h : RB w b s i) (hi : i < s.size) (hc : ((s[i].toNat : Int) == c) = false) :
    Calls Tryd.prog 42 #[.pointer (some ⟨b, 0, none⟩), .int .u8 c] w fun e w' => e = .returned (.bool false) ∧ Gr w w' := by
  obtain ⟨h0, h1, h2⟩ := h
  have hg : ((i : Int) == (s.size : Int)) = false := by rw [beq_eq_false_iff_ne]; omega
  go_enter Tryd.func42, Tryd.ntmps42
  go_wp2
  go_quiet (fail)
  go_wp2
  go_ret
  exact ⟨rfl, (Gr.refl _).drewN _⟩
set_option maxHeartbeats 1000000 in
theorem take_yes (b : Nat) (s : ByteArray) (i : Nat) (c : Int) (w : World) (h : RB w b s i) (hi : i < s.size) (hs : s.size ≤ 400000) (hc : (s[i].toNat : Int) = c) :
    Calls Tryd.prog 42 #[.pointer (some ⟨b, 0, none⟩), .int .u8 c] w fun e w' => e = .returned (.bool true) ∧ Mv b w w' ∧ RB w' b s (i + 1) := by
  have hr := h
  obtain ⟨h0, h1, h2⟩ := h
  have hg : ((i : Int) == (s.size : Int)) = false := by rw [beq_eq_false_iff_ne]; omega
  have hc2 : ((s[i].toNat : Int) == c) = true := by rw [beq_iff_eq]; exact hc
  clear hc
  go_enter Tryd.func42, Tryd.ntmps42
  go_wp2
  go_quiet (fail)
  go_wp2
  go_ret
  exact ⟨rfl, ((Gr.refl _).drewN _).mv b |>.trans (Mv.set b _ 1 _), (hr.drew _).set (i + 1)⟩
theorem hd_at (s : ByteArray) (i : Nat) (h : i < s.size) : (s.data.toList.drop i).head? = some s[i] := by
  have h2 : i < s.data.toList.length := by rw [← Lib.size_eq]; exact h
  rw [List.drop_eq_getElem_cons h2]; rfl
theorem hd_lt {s : ByteArray} {i : Nat} {c : UInt8} (h : (s.data.toList.drop i).head? = some c) : i < s.size := by
  rcases Nat.lt_or_ge i s.size with h2 | h2
  · exact h2
  · rw [List.drop_eq_nil_of_le (by rw [← Lib.size_eq]; exact h2)] at h; cases h
/- by what is left of the text -/
theorem take_t (b : Nat) (s : ByteArray) (i : Nat) (c : UInt8) (n : Int) (hn : (c.toNat : Int) = n) (w : World) (h : RB w b s i) (hs : s.size ≤ 400000) (hc : (s.data.toList.drop i).head? = some c) :
    Calls Tryd.prog 42 #[.pointer (some ⟨b, 0, none⟩), .int .u8 n] w fun e w' => e = .returned (.bool true) ∧ Mv b w w' ∧ RB w' b s (i + 1) := by
  have hi := hd_lt hc
  rw [hd_at s i hi] at hc
  injection hc with hc
  exact take_yes b s i n w h hi hs (by rw [hc]; exact hn)
theorem take_f (b : Nat) (s : ByteArray) (i : Nat) (c : UInt8) (n : Int) (hn : (c.toNat : Int) = n) (w : World) (h : RB w b s i) (hi : i ≤ s.size) (hc : (s.data.toList.drop i).head? ≠ some c) :
    Calls Tryd.prog 42 #[.pointer (some ⟨b, 0, none⟩), .int .u8 n] w fun e w' => e = .returned (.bool false) ∧ Gr w w' := by
  rcases Nat.lt_or_ge i s.size with h2 | h2
  · refine take_no b s i n w h h2 ?_
    rw [beq_eq_false_iff_ne]
    intro e
    refine hc ?_
    rw [hd_at s i h2]
    congr 1
    exact UInt8.toNat_inj.1 (by omega)
  · obtain rfl : i = s.size := by omega
    exact take_end_ b s n w h
end Go.Proofs.YtpcmhaflmpcicaaDoor
