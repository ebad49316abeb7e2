/- Times as texts: the reference's reading by pieces: plain mathematics. -/
import Derived.Test.YtafpdiikhhikeaaGreatDoorClkParse
import Derived.Test.YtafpdiikhhikeaaGreatDoorVo
namespace Go.Proofs.YtafpdiikhhikeaaGreatDoor
namespace Va
open Txt

/- seconds of a text, or -1 -/
def secV (l : List UInt8) : Int := if Clk.parB l then Clk.parV l else -1
theorem dgs_k {l : List UInt8} (h : l ≠ []) : (l.all isD = true → dgs l = val l 0) ∧ (l.all isD = false → dgs l = -1) :=
  ⟨fun ha => if_pos ⟨h, ha⟩, fun ha => if_neg (by simp [ha])⟩
theorem dgs_lo (l : List UInt8) : -1 ≤ dgs l := by
  unfold dgs; split <;> omega
theorem dgs_hi {l : List UInt8} {k : Nat} (h : l.length ≤ k) : dgs l < 10 ^ k := by
  unfold dgs
  split
  · rename_i h1
    have := val_lt l 0 h1.2
    have h3 : 10 ^ l.length ≤ 10 ^ k := Nat.pow_le_pow_right (by omega) h
    have : val l 0 < 10 ^ k := by omega
    exact_mod_cast this
  · have : (0 : Int) < 10 ^ k := by exact_mod_cast Nat.pow_pos (n := k) (by omega : 0 < 10)
    omega
/- three pieces of a text of digits -/
theorem parts3 {a b c : List UInt8} (hb : b.length = 2) (hc : c.length = 2) (ha : a ≠ []) :
    ((a ++ b ++ c).all isD = decide (0 ≤ dgs a ∧ 0 ≤ dgs b ∧ 0 ≤ dgs c)) ∧
    ((a ++ b ++ c).all isD = true → Clk.vY (a ++ b ++ c) = dgs a ∧ Clk.vM (a ++ b ++ c) = dgs b ∧ Clk.vD (a ++ b ++ c) = dgs c) := by
  have hbn : b ≠ [] := by rintro rfl; cases hb
  have hcn : c ≠ [] := by rintro rfl; cases hc
  have hv : val (a ++ b ++ c) 0 = (val a 0 * 100 + val b 0) * 100 + val c 0 := by rw [val_two, val_two, hb, hc]
  rw [List.all_append, List.all_append]
  rcases h1 : a.all isD
  · rw [(dgs_k ha).2 h1]
    exact ⟨by simp, fun h => by simp at h⟩
  · rw [(dgs_k ha).1 h1]
    rcases h2 : b.all isD
    · rw [(dgs_k hbn).2 h2]
      exact ⟨by simp, fun h => by simp at h⟩
    · rw [(dgs_k hbn).1 h2]
      rcases h3 : c.all isD
      · rw [(dgs_k hcn).2 h3]
        exact ⟨by simp, fun h => by simp at h⟩
      · rw [(dgs_k hcn).1 h3]
        have l2 := ((dgs_two hb).1 h2).2
        have l3 := ((dgs_two hc).1 h3).2
        refine ⟨by simp, fun _ => ?_⟩
        unfold Clk.vY Clk.vM Clk.vD
        rw [hv]
        omega
theorem sec_parts {a b c t e f g : List UInt8} {l : List UInt8} (hl : l = a ++ b ++ c ++ t ++ (e ++ f ++ g)) (ha : a.length = 4) (hb : b.length = 2) (hc : c.length = 2) (ht : t = [84]) (he : e.length = 2) (hf : f.length = 2) (hg : g.length = 2) :
    secV l = if (0 ≤ dgs a ∧ 0 ≤ dgs b ∧ 0 ≤ dgs c ∧ 0 ≤ dgs e ∧ 0 ≤ dgs f ∧ 0 ≤ dgs g ∧ dgs e ≤ 23 ∧ dgs f ≤ 59 ∧ dgs g ≤ 59) ∧ Cal.okB (dgs a) (dgs b) (dgs c) = true then 86400 * Cal.num (dgs a) (dgs b) (dgs c) + 3600 * dgs e + 60 * dgs f + dgs g else -1 := by
  have han : a ≠ [] := by rintro rfl; cases ha
  have hen : e ≠ [] := by rintro rfl; cases he
  obtain ⟨p1, p2⟩ := parts3 hb hc han
  obtain ⟨q1, q2⟩ := parts3 hf hg hen
  have t8 : l.take 8 = a ++ b ++ c := by
    rw [hl, List.append_assoc (a ++ b ++ c)]
    exact List.take_left' (by simp [ha, hb, hc])
  have t9 : l.drop 9 = e ++ f ++ g := by
    rw [hl]
    exact List.drop_left' (by simp [ha, hb, hc, ht])
  have l15 : l.length = 15 := by rw [hl]; simp [ha, hb, hc, ht, he, hf, hg]
  have a8 : l[8]? = some 84 := by
    rw [hl, List.append_assoc (a ++ b ++ c), List.getElem?_append_right (by simp [ha, hb, hc]), ht]
    simp [ha, hb, hc]
  unfold secV Clk.parB Clk.txtB Clk.parV
  rw [t8, t9, l15, a8]
  rcases h1 : (a ++ b ++ c).all isD
  · rw [h1] at p1
    have hn : ¬ (0 ≤ dgs a ∧ 0 ≤ dgs b ∧ 0 ≤ dgs c) := of_decide_eq_false p1.symm
    rw [if_neg (by simp), if_neg (by rintro ⟨h, _⟩; omega)]
  · obtain ⟨y1, y2, y3⟩ := p2 h1
    rw [h1] at p1
    have hp := of_decide_eq_true p1.symm
    rcases h2 : (e ++ f ++ g).all isD
    · rw [h2] at q1
      have hn : ¬ (0 ≤ dgs e ∧ 0 ≤ dgs f ∧ 0 ≤ dgs g) := of_decide_eq_false q1.symm
      rw [if_neg (by simp), if_neg (by rintro ⟨h, _⟩; omega)]
    · obtain ⟨z1, z2, z3⟩ := q2 h2
      rw [h2] at q1
      have hq := of_decide_eq_true q1.symm
      rw [y1, y2, y3, z1, z2, z3]
      rcases h3 : Cal.okB (dgs a) (dgs b) (dgs c)
      · rw [if_neg (by simp), if_neg (by simp)]
      · rcases h4 : Clk.timB (dgs e) (dgs f) (dgs g)
        · have hn : ¬ (0 ≤ dgs e ∧ dgs e ≤ 23 ∧ 0 ≤ dgs f ∧ dgs f ≤ 59 ∧ 0 ≤ dgs g ∧ dgs g ≤ 59) := by rw [← Clk.timB_iff, h4]; simp
          rw [if_neg (by simp), if_neg (by rintro ⟨h, _⟩; omega)]
        · have ht := Clk.timB_iff.1 h4
          rw [if_pos (by simp), if_pos ⟨by omega, rfl⟩]
          omega
theorem secV_len {l : List UInt8} (h : l.length ≠ 15) : secV l = -1 := by
  unfold secV Clk.parB Clk.txtB
  rw [if_neg (by simp [h])]
theorem secV_T {l : List UInt8} (h : l[8]? ≠ some 84) : secV l = -1 := by
  unfold secV Clk.parB Clk.txtB
  rw [if_neg (by simp [h])]
end Va
end Go.Proofs.YtafpdiikhhikeaaGreatDoor
