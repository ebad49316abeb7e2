/- What the laws' Few of layer 10 returns. -/
import Derived.Test.YtpcmhaflmpcicaaDoorLnForm2
namespace Go.Proofs.YtpcmhaflmpcicaaDoor
open Go.RowKit

namespace Ln
/- a parameter with more values than are borne, those ahead of it small -/
def Wide (ps : List Par) (k : Nat) : Prop := ∃ k0, ∃ h : k0 < ps.length, k0 < k ∧ 60 < ps[k0].2.length ∧ wtPs (ps.take k0) ≤ 5000
def Sm (a : Nat) (ps : List Par) : Prop := a + wtPs ps ≤ 5000 ∨ Wide ps ps.length
theorem wide_no {ps : List Par} {k0 : Nat} (h : k0 < ps.length) (h6 : 60 < ps[k0].2.length) (k : Nat) (hk : k0 < k) : psB (ps.take k) = false := by
  cases e : psB (ps.take k)
  · rfl
  · have h1 := ((psB_iff _).1 e).1 ps[k0] (by rw [List.mem_take_iff_getElem]; exact ⟨k0, by omega, rfl⟩)
    have h2 := ((parB_iff _).1 h1).2.2.1
    omega
theorem Sm.calm {a : Nat} {ps : List Par} (h : Sm a ps) : Calm ps := by
  rcases h with h | ⟨k0, h0, _, h6, hw⟩
  · exact calm_of (by omega)
  · intro k hk hp hl v hv
    rcases Nat.lt_trichotomy k k0 with h | h | h
    · have h1 := wtPs_take ps k hk
      have h2 := wtPs_le (ps.take k0) (k + 1)
      rw [List.take_take, Nat.min_eq_left (by omega)] at h2
      have h3 := wtV_mem hv
      unfold wtP at h1
      omega
    · subst h; omega
    · rw [wide_no h0 h6 k h] at hp; cases hp
theorem Sm.formed {a : List UInt8} {b : List UInt8} {ps : List Par} (h : Sm (a.length + b.length) ps) (hf : formed ⟨a, ps, b⟩ = true) : a.length + b.length + wtPs ps ≤ 5000 := by
  rcases h with h | ⟨k0, h0, _, h6, _⟩
  · exact h
  · have h1 := ((formed_iff _).1 hf).2.2.2
    have h2 := wide_no h0 h6 ps.length h0
    rw [List.take_length] at h2
    rw [h2] at h1; cases h1
end Ln
theorem w64 {x : Int} (h : 0 ≤ x) (h2 : x ≤ 9223372036854775807) : wrap64 x = x := by unfold wrap64; omega
theorem w64_2 {x y : Int} (hx : 0 ≤ x) (hy : 0 ≤ y) (h : x + y ≤ 9223372036854775000) : wrap64 (wrap64 (x + y) + 1) = x + y + 1 := by
  have e := w64 (x := x + y) (by omega) (by omega)
  rw [e, w64 (by omega) (by omega)]
namespace Ln
theorem wtV_bound (vs : List (List UInt8)) (h : ∀ v ∈ vs, v.length ≤ 140737488355328) : wtV vs ≤ vs.length * 140737488355329 := by
  induction vs with
  | nil => simp [wtV_nil]
  | cons v vs ih =>
    have h1 := h v (by simp)
    have h2 := ih (fun x hx => h x (by simp [hx]))
    rw [wtV_cons, List.length_cons, Nat.add_mul]; omega
theorem Wide.more {ps : List Par} {k : Nat} (h : Wide ps k) : Wide ps (k + 1) := by
  obtain ⟨k0, h0, h1, h2, h3⟩ := h
  exact ⟨k0, h0, by omega, h2, h3⟩
end Ln
set_option maxHeartbeats 4000000 in
set_option maxRecDepth 100000 in
theorem few10_any (N V : ByteArray) (A : Option Addr) (n c : Nat) (ps : List Ln.Par) (w : World) (hP : Pars w w.heap.size A n ps) (hN : N.size ≤ 140737488355328) (hV : V.size ≤ 140737488355328) (hn : n ≤ 140737488355328)
    (hp1 : ∀ p ∈ ps, p.1.length ≤ 140737488355328) (hp2 : ∀ p ∈ ps, p.2.length ≤ 140737488355328) (hp3 : ∀ p ∈ ps, ∀ v ∈ p.2, v.length ≤ 140737488355328) :
    Calls Tryd.prog 8 #[.agg #[.string N, .slice A n c, .string V]] w fun e w' => ∃ b, e = .returned (.bool b) ∧ Gr w w' ∧ (b = true → Ln.Sm (N.size + V.size) ps) := by
  have HL := Lib.hid hP.1
  have hg0 : Gr w (w.alloc (.cells #[.string N, .slice A n c, .string V] 24)) := (Gr.refl w).allocO _
  have hb1 := Bx3.new w (.string N) (.slice A n c) (.string V) 24
  go_enter Tryd.func8, Tryd.ntmps8
  go_wp2
  generalize w.alloc (.cells #[.string N, .slice A n c, .string V] 24) = w0 at *
  go_loopg [3, 16] n (fun g v3 v16 wx => ∃ m : Int, ∃ k : Nat, v3 = .int .i64 m ∧ v16 = .int .i64 (k : Int) ∧ k + g = n ∧ w0 = wx ∧ Hid ((m = ((N.size + V.size + Ln.wtPs (ps.take k) : Nat) : Int) ∧ (0 < k → m ≤ 5000)) ∨ Ln.Wide ps k))
  case atStart => exact ⟨_, 0, rfl, rfl, by omega, rfl, Lib.hid (.inl ⟨by simp [Ln.wtPs_nil], fun h => absurd h (by omega)⟩)⟩
  case round =>
    obtain ⟨m, k, rfl, rfl, hkg, rfl, HSt⟩ := hrel
    have HG := Lib.hid hkg
    clear hkg
    have d1 := hb1.c1
    by_cases hk : k < n
    · obtain ⟨ad, hk', rfl, hbl, hc0', A', n', c', hc1', hS⟩ := hP.at_ hk
      have hc0 := (hg0.below.cell (p := ad.add (k * 2)) (by rw [add_block]; exact hbl)).trans hc0'
      have hc1 := (hg0.below.cell (p := ⟨(ad.add (k * 2)).block, (ad.add (k * 2)).off + 1, none⟩) (by show (ad.add (k * 2)).block < _; rw [add_block]; exact hbl)).trans hc1'
      have hq1 := hp1 _ (List.getElem_mem hk')
      have hq3 := hp3 _ (List.getElem_mem hk')
      have hnz : (ByteArray.mk ps[k].1.toArray).size = ps[k].1.length := size_mk _
      have hwt := Ln.wtPs_take ps k hk'
      have hwp : Ln.wtP ps[k] = ps[k].1.length + 1 + Ln.wtV ps[k].2 := rfl
      have hvl := hS.1
      rw [← hnz] at hq1 hwp
      -- what the sum is, as long as nothing wide has been met
      have HB : Hid (¬ Ln.Wide ps k → m = ((N.size + V.size + Ln.wtPs (ps.take k) : Nat) : Int) ∧ Ln.wtPs (ps.take k) ≤ 5000 ∧ N.size + V.size + Ln.wtPs (ps.take k) ≤ 281474976710656) := Lib.hid (fun hx => by
        rcases HSt.out with ⟨h1, h2⟩ | h
        · refine ⟨h1, ?_, ?_⟩ <;> rcases Nat.eq_zero_or_pos k with h0 | h0
          · subst h0; simp [Ln.wtPs_nil]
          · have := h2 h0; omega
          · subst h0; rw [List.take_zero, Ln.wtPs_nil]; omega
          · have := h2 h0; omega
        · exact absurd h hx)
      have HW := Lib.hid (And.intro hwt (And.intro hwp hvl))
      clear hwt hwp hvl hnz HSt
      generalize (ByteArray.mk ps[k].1.toArray) = nb at *
      obtain ⟨vs, hvs⟩ : ∃ vs, ps[k].2 = vs := ⟨_, rfl⟩
      rw [hvs] at hS hq3
      have HVS := Lib.hid hvs
      clear hvs
      go_wp2
      go_loopg [3, 36] n' (fun g v3 v36 wy => ∃ m1 : Int, ∃ i : Nat, v3 = .int .i64 m1 ∧ v36 = .int .i64 (i : Int) ∧ i + g = n' ∧ w0 = wy ∧ Hid (¬ Ln.Wide ps k → i ≤ 60 → m1 = ((N.size + V.size + Ln.wtPs (ps.take k) + nb.size + 1 + Ln.wtV (vs.take i) : Nat) : Int)))
      case atStart =>
        refine ⟨_, 0, rfl, rfl, by omega, rfl, Lib.hid (fun hx _ => ?_)⟩
        obtain ⟨h1, h2, h3⟩ := HB.out hx
        rw [h1, w64_2 (by omega) (by omega) (by omega), List.take_zero, Ln.wtV_nil]
        omega
      case round =>
        obtain ⟨m1, i, rfl, rfl, hig, rfl, HI⟩ := hrel
        have HGI := Lib.hid hig
        clear hig
        by_cases hi : i < n'
        · obtain ⟨av, hi', rfl, hbv, hcv0⟩ := hS.at_ hi
          have hcv := (hg0.below.cell (p := av.add i) (by rw [add_block]; exact hbv)).trans hcv0
          have hle := hq3 _ (List.getElem_mem hi')
          have hvz : (ByteArray.mk vs[i].toArray).size = vs[i].length := size_mk _
          have hn'b : n' ≤ 140737488355328 := by
            have h1 := hp2 _ (List.getElem_mem hk')
            rw [HW.out.2.2] at h1; exact h1
          have HT := Lib.hid (Ln.wtV_take vs i hi')
          have HBD := Lib.hid (Ln.wtV_bound (vs.take i) (fun v hv => hq3 v (List.mem_of_mem_take hv)))
          have HTL : Hid ((vs.take i).length = i) := Lib.hid (by rw [List.length_take]; omega)
          rw [← hvz] at hle
          have HVZ := Lib.hid hvz
          clear hvz hcv0
          generalize (ByteArray.mk vs[i].toArray) = sv at *
          go_wp2
          go_roundg (n' - (i + 1))
          case measure => have := HGI.out; omega
          case rel =>
            refine ⟨_, i + 1, rfl, by go_num, by omega, rfl, Lib.hid (fun hx h60 => ?_)⟩
            obtain ⟨h1, h2, h3⟩ := HB.out hx
            have h4 := HI.out hx (by omega)
            have h5 := HBD.out
            rw [HTL.out] at h5
            have h6 : i * 140737488355329 ≤ 60 * 140737488355329 := Nat.mul_le_mul_right _ (by omega)
            rw [h4, w64_2 (by omega) (by omega) (by omega), HT.out, ← HVZ.out]
            omega
        · obtain rfl : i = n' := by have := HGI.out; omega
          have hall : vs.take i = vs := List.take_of_length_le (by have := HW.out.2.2; rw [HVS.out] at this; omega)
          have HN' : Hid (¬ 5000 < m1 → (m1 = ((N.size + V.size + Ln.wtPs (ps.take (k + 1)) : Nat) : Int) ∧ (0 < k + 1 → m1 ≤ 5000)) ∨ Ln.Wide ps (k + 1)) := Lib.hid (fun h5 => by
            by_cases hx : Ln.Wide ps k
            · exact .inr hx.more
            · by_cases h60 : i ≤ 60
              · have h4 := HI.out hx h60
                rw [hall] at h4
                have h7 := HW.out.1
                have h8 := HW.out.2.1
                rw [HVS.out] at h8
                exact .inl ⟨by rw [h4]; omega, fun _ => by omega⟩
              · have h9 := (HB.out hx).2.1
                have h10 := HW.out.2.2
                exact .inr ⟨k, hk', by omega, by omega, h9⟩)
          clear hall
          by_cases h5 : 5000 < m1
          · go_wp2
            go_ret
            exact .inl ⟨rfl, hg0⟩
          · have HN2 := Lib.hid (HN'.out h5)
            go_wp2
            go_roundg (n - (k + 1))
            case measure => have := HG.out; omega
            case rel => exact ⟨m1, k + 1, rfl, by go_num, by omega, rfl, HN2⟩
    · obtain rfl : k = n := by have := HG.out; omega
      have hall : ps.take k = ps := List.take_of_length_le (by rw [HL.out]; exact Nat.le_refl _)
      have HE : Hid (m ≤ 5000 → Ln.Sm (N.size + V.size) ps) := Lib.hid (fun h5 => by
        rcases HSt.out with ⟨h1, _⟩ | h
        · rw [hall] at h1
          exact .inl (by omega)
        · exact .inr (by rw [HL.out]; exact h))
      clear hall
      go_wp2
      go_ret
      exact ⟨_, rfl, hg0, fun h => HE.out (of_decide_eq_true h)⟩
end Go.Proofs.YtpcmhaflmpcicaaDoor
