/- What line.Find returns. -/
import Derived.Test.YtpcmhaflmpcicaaDoorLnAft
import Derived.Test.YtpcmhaflmpcicaaDoorLnFv
namespace Go.Proofs.YtpcmhaflmpcicaaDoor
open Go.RowKit

namespace Ln
/- what is found under a name -/
def Fnd (ps : List Par) (nm : List UInt8) (x : ByteArray) (ok : Bool) : Prop :=
  (nm ∉ ps.map Prod.fst ∧ x = ⟨#[]⟩ ∧ ok = false) ∨
  ∃ i, ∃ hi : i < ps.length, ps[i].1 = nm ∧ nm ∉ (ps.take i).map Prod.fst ∧ ((ps[i].2.length = 0 ∧ x = ⟨#[]⟩ ∧ ok = false) ∨ ∃ h : 0 < ps[i].2.length, x = ⟨ps[i].2[0].toArray⟩ ∧ ok = true)
end Ln
set_option maxHeartbeats 4000000 in
set_option maxRecDepth 100000 in
theorem find_any (N V name : ByteArray) (A : Option Addr) (n c : Nat) (ps : List Ln.Par) (w : World) (hP : Pars w w.heap.size A n ps) (hn : n ≤ 140737488355328) (hv : ∀ p ∈ ps, ∀ v ∈ p.2, v.length ≤ 140737488355328) (hvn : ∀ p ∈ ps, p.2.length ≤ 140737488355328) :
    Calls Tryd.prog 20 #[.agg #[.string N, .slice A n c, .string V], .string name] w fun e w' => ∃ x ok, e = .returned (.tuple #[.string x, .bool ok]) ∧ Hid (Ln.Fnd ps name.data.toList x ok) ∧ Gr w w' := by
  have hlen : ps.length = n := hP.1
  have hg0 : Gr w (w.alloc (.cells #[.string N, .slice A n c, .string V] 32)) := (Gr.refl w).allocO _
  have hx0 := Bx3.new w (.string N) (.slice A n c) (.string V) 32
  have cI := index_any name A n c ps _ (hP.gr hg0) hn
  go_enter Tryd.func20, Tryd.ntmps20
  go_wp2_with fail
  refine cI.mono ?_
  rintro e w1 ⟨v, rfl, hix, hg1⟩
  have hx1 := hx0.gr hg1
  have hg01 := hg0.trans hg1
  rcases hix with ⟨rfl, hno⟩ | ⟨i, hi, rfl, h1, h2⟩
  · have HF : Hid (Ln.Fnd ps name.data.toList ⟨#[]⟩ false) := Lib.hid (.inl ⟨hno, rfl, rfl⟩)
    obtain ⟨x10, x11, x12, _, _, _⟩ := hx1
    clear hno
    go_wp2
    go_ret2
    exact ⟨_, _, rfl, HF, hg01⟩
  · have hin : i < n := by omega
    obtain ⟨ad, hk', rfl, hbl, hc0, A', n', c', hc1, hS⟩ := (hP.gr hg01).at_ hin
    have hvk := hv _ (List.getElem_mem hk')
    have hvl := hS.1
    have hnv : n' ≤ 140737488355328 := by have := hvn _ (List.getElem_mem hk'); omega
    rcases Nat.eq_zero_or_pos n' with h0 | h0
    · subst h0
      have HF : Hid (Ln.Fnd ps name.data.toList ⟨#[]⟩ false) := Lib.hid (.inr ⟨i, hi, h1, h2, .inl ⟨hvl, rfl, rfl⟩⟩)
      clear h1 h2 hvl hvk
      obtain ⟨x10, x11, x12, _, _, _⟩ := hx1
      have hiN : (0 : Int) ≤ (i : Int) := by omega
      have hiL : (i : Int) < (n : Int) := by omega
      have hi0 : ¬ (i : Int) < 0 := by omega
      go_wp2
      go_ret2
      exact ⟨_, _, rfl, HF, hg01⟩
    · obtain ⟨av, hi', rfl, hbv, hcv⟩ := hS.at_ h0
      have HF : Hid (Ln.Fnd ps name.data.toList ⟨ps[i].2[0].toArray⟩ true) := Lib.hid (.inr ⟨i, hi, h1, h2, .inr ⟨hi', rfl, rfl⟩⟩)
      have hle := hvk _ (List.getElem_mem hi')
      have cC := fun w => clone_any ⟨ps[i].2[0].toArray⟩ w (by rw [size_mk]; exact hle)
      clear h1 h2 hvl hvk hle
      generalize (ByteArray.mk ps[i].2[0].toArray) = sv at *
      generalize (ByteArray.mk ps[i].1.toArray) = nb at *
      obtain ⟨x10, x11, x12, _, _, _⟩ := hx1
      have hiN : (0 : Int) ≤ (i : Int) := by omega
      have hiL : (i : Int) < (n : Int) := by omega
      have hi0 : ¬ (i : Int) < 0 := by omega
      have hcv0 : w1.cell? av = some (.string sv) := hcv
      have hn0 : ((n' : Int) == 0) = false := by rw [beq_eq_false_iff_ne]; omega
      go_wp2_with fail
      refine (cC _).mono ?_
      rintro e w2 ⟨rfl, hg2⟩
      go_wp2
      go_ret2
      exact ⟨_, _, rfl, HF, hg01.trans hg2⟩
end Go.Proofs.YtpcmhaflmpcicaaDoor
