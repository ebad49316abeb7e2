/- What the reference's terms returns. -/
import Derived.Test.YtafpdiikhhikeaaDoorVaMem
import Derived.Test.YtafpdiikhhikeaaDoorVaFn
import Derived.Deep.RegionHeld3
namespace Go.Proofs.YtafpdiikhhikeaaDoor
open Go.RowKit

namespace Va
theorem tmG_dig {b : UInt8} {l d : List UInt8} (h : Txt.isD b = true) : tmG (b :: l) d = tmG l (d ++ [b]) := by rw [tmG, if_pos h]
theorem tmG_no {b : UInt8} {l d : List UInt8} (h : Txt.isD b = false) (hd : d = [] ∨ 10 < d.length) : tmG (b :: l) d = none := by rw [tmG, if_neg (by simp [h]), if_pos hd]
theorem tmG_yes {b : UInt8} {l d : List UInt8} (h : Txt.isD b = false) (h1 : d ≠ []) (h2 : d.length ≤ 10) : tmG (b :: l) d = (tmG l []).map ((Txt.val d 0, b) :: ·) := by
  rw [tmG, if_neg (by simp [h]), if_neg (by rintro (h | h); exact h1 h; omega)]
end Va
theorem drop_cons (s : ByteArray) (j : Nat) (h : j < s.size) : s.data.toList.drop j = s[j] :: s.data.toList.drop (j + 1) := by
  have h' : j < s.data.toList.length := by rw [← Lib.size_eq]; exact h
  rw [List.drop_eq_getElem_cons h']; rfl
theorem take_snoc (s : ByteArray) (j : Nat) (h : j < s.size) : s.data.toList.take (j + 1) = s.data.toList.take j ++ [s[j]] := by
  have h' : j < s.data.toList.length := by rw [← Lib.size_eq]; exact h
  rw [List.take_succ_eq_append_getElem h']; rfl
theorem ext_mid (s : ByteArray) (p j : Nat) : (s.extract p j).data.toList = (s.data.toList.take j).drop p := by
  rw [Lib.extract_data, List.drop_take]
def TmRes (l : List UInt8) (w : World) (e : Ending) (w' : World) : Prop :=
  ∃ A n c b t, e = .returned (.tuple #[.slice A n c, .bool b]) ∧ Gr w w' ∧ (b = true → Va.tm l = some t ∧ t ≠ [] ∧ Tms w' A n t) ∧ (b = false → Va.tm l = none ∨ Va.tm l = some [])
set_option maxRecDepth 100000 in
set_option maxHeartbeats 4000000 in
theorem terms_any (s : ByteArray) (w : World) (hl : s.size ≤ 200) :
    Calls Tryd.prog 34 #[.string s] w (TmRes s.data.toList w) := by
  have HZ := Lib.hid (Lib.size_eq s)
  go_enter Tryd.func34, Tryd.ntmps34
  go_wp2
  go_loopg [4, 5, 9] s.size (fun g v4 v5 v9 wx => ∃ A n c t d, ∃ p j : Nat, v4 = .slice A n c ∧ v5 = .int .i64 (p : Int) ∧ v9 = .int .i64 (j : Int) ∧ j + g = s.size ∧ p + d.length = j ∧ n ≤ j ∧ OwnK wx w.heap.size 53 2 A n c (cel t) ∧ Gr w wx ∧ Hid ((s.data.toList.take j).drop p = d ∧ d.all Txt.isD = true ∧ Va.tm s.data.toList = (Va.tmG (s.data.toList.drop j) d).map (t ++ ·)))
  case atStart => exact ⟨_, _, _, [], [], 0, 0, rfl, rfl, rfl, by omega, rfl, by omega, OwnK.nil _ _ _ _, Gr.refl _, Lib.hid ⟨rfl, rfl, by rw [List.drop_zero]; show Va.tm _ = _; unfold Va.tm; simp⟩⟩
  case round =>
    obtain ⟨A, n, c, t, d, p, j, rfl, rfl, rfl, hjg, hpd, hnj, hown, hg, HS⟩ := hrel
    have HG := Lib.hid hjg
    clear hjg
    have hj1 : j ≤ s.size := by have := HG.out; omega
    have hsz : w.heap.size ≤ wr.heap.size := hg.lt
    have HO := Lib.hid hown
    have HR := Lib.hid hg
    clear hown hg
    by_cases hj : j < s.size
    · rcases hd : Txt.isD s[j]
      · by_cases hbad : d = [] ∨ 10 < d.length
        · have hE : Va.tm s.data.toList = none := by
            rw [HS.out.2.2, drop_cons s j hj, Va.tmG_no hd hbad]; rfl
          have HE := Lib.hid hE
          have hn : ¬ (48 ≤ s[j].toNat ∧ s[j].toNat ≤ 57) := fun h => by rw [Txt.isD_iff.2 h] at hd; cases hd
          clear hE hd
          by_cases hd0 : d = []
          · have hpj : ((j : Int) == p) = true := by subst hd0; simp at hpd ⊢; omega
            have hpj2 : j = p := by subst hd0; simpa using hpd.symm
            clear hbad
            subst hpj2
            by_cases c1 : (48 : Int) ≤ s[j].toNat
            · have c2 : ¬ (s[j].toNat : Int) ≤ 57 := by omega
              clear hn
              go_wp2
              go_ret2
              exact ⟨_, _, _, _, [], rfl, HR.out, fun h => by (cases h), fun _ => .inl HE.out⟩
            · clear hn
              go_wp2
              go_ret2
              exact ⟨_, _, _, _, [], rfl, HR.out, fun h => by (cases h), fun _ => .inl HE.out⟩
          · have hp0 : 0 < d.length := List.length_pos_iff.2 hd0
            have hpj : ((j : Int) == p) = false := by simp; omega
            have h10 : 10 < d.length := by rcases hbad with h | h; exact absurd h hd0; exact h
            have hpd2 : (10 : Int) < (j : Int) - p := by omega
            clear hbad
            by_cases c1 : (48 : Int) ≤ s[j].toNat
            · have c2 : ¬ (s[j].toNat : Int) ≤ 57 := by omega
              clear hn
              go_wp2
              go_ret2
              exact ⟨_, _, _, _, [], rfl, HR.out, fun h => by (cases h), fun _ => .inl HE.out⟩
            · clear hn
              go_wp2
              go_ret2
              exact ⟨_, _, _, _, [], rfl, HR.out, fun h => by (cases h), fun _ => .inl HE.out⟩
        · have hd0 : d ≠ [] := fun h => hbad (.inl h)
          have hd10 : d.length ≤ 10 := by
            rcases Nat.lt_or_ge 10 d.length with h | h
            · exact absurd (.inr h) hbad
            · exact h
          have hp0 : 0 < d.length := List.length_pos_iff.2 hd0
          have hpj : ((j : Int) == p) = false := by simp; omega
          have hpd2 : decide ((10 : Int) < (j : Int) - p) = false := by simp; omega
          have hex := ext_mid s p j
          rw [HS.out.1] at hex
          have hzx : (s.extract p j).size ≤ 17 := by rw [Lib.size_eq, hex]; omega
          have cD := fun w => digits12_any (s.extract p j) w hzx
          rw [hex, Va.dgs_yes hd0 HS.out.2.1] at cD
          have hE : Va.tm s.data.toList = (Va.tmG (s.data.toList.drop (j + 1)) []).map ((t ++ [(Txt.val d 0, s[j])]) ++ ·) := by
            rw [HS.out.2.2, drop_cons s j hj, Va.tmG_yes hd hd0 hd10, Option.map_map]
            congr 1
            funext x
            simp
          have HE := Lib.hid hE
          have hn : ¬ (48 ≤ s[j].toNat ∧ s[j].toNat ≤ 57) := fun h => by rw [Txt.isD_iff.2 h] at hd; cases hd
          have hvl : Txt.val d 0 < 10000000000 := Va.val_lt10 (k := 10) (Va.num_iff.2 ⟨hd0, hd10, HS.out.2.1⟩)
          have hown1 := HO.out
          clear hE hd hex hbad hd0 hzx
          generalize hv : Txt.val d 0 = v at *
          clear hv
          have hn1 : n + 1 ≤ 1000000 := by omega
          have h0p : (0 : Int) ≤ p := by omega
          have hpj3 : (p : Int) ≤ j := by omega
          have hjs : (j : Int) ≤ s.size := by omega
          by_cases c1 : (48 : Int) ≤ s[j].toNat
          · have c2 : ¬ (s[j].toNat : Int) ≤ 57 := by omega
            clear hn
            go_wp2_with fail
            go_region_held3 (fun _ => True) (trivial)
              (first | (go_at_call 38; refine (cD _).mono ?_; rintro e w' ⟨rfl, rfl⟩) | (refine st_term wr (by rfl) (.tmp 31) (.tmp 41) (by rfl) w.heap.size A n c t (by rfl) hown1 (v, s[j]) (by rfl) hn1 hsz ?_; intro A3 c3 w3 hown3 hb3))
            all_goals (go_wp2; go_roundg (s.size - (j + 1)); (case measure => have := HG.out; omega); (case rel => exact ⟨_, n + 1, _, _, [], j + 1, j + 1, rfl, by go_num, by go_num, by omega, rfl, by omega, hown3, ⟨HR.out.below.trans hb3⟩, Lib.hid ⟨by rw [List.drop_eq_nil_iff, List.length_take]; omega, rfl, HE.out⟩⟩))
          · clear hn
            go_wp2_with fail
            go_region_held3 (fun _ => True) (trivial)
              (first | (go_at_call 38; refine (cD _).mono ?_; rintro e w' ⟨rfl, rfl⟩) | (refine st_term wr (by rfl) (.tmp 31) (.tmp 41) (by rfl) w.heap.size A n c t (by rfl) hown1 (v, s[j]) (by rfl) hn1 hsz ?_; intro A3 c3 w3 hown3 hb3))
            all_goals (go_wp2; go_roundg (s.size - (j + 1)); (case measure => have := HG.out; omega); (case rel => exact ⟨_, n + 1, _, _, [], j + 1, j + 1, rfl, by go_num, by go_num, by omega, rfl, by omega, hown3, ⟨HR.out.below.trans hb3⟩, Lib.hid ⟨by rw [List.drop_eq_nil_iff, List.length_take]; omega, rfl, HE.out⟩⟩))
      · have hE : (s.data.toList.take (j + 1)).drop p = d ++ [s[j]] ∧ (d ++ [s[j]]).all Txt.isD = true ∧ Va.tm s.data.toList = (Va.tmG (s.data.toList.drop (j + 1)) (d ++ [s[j]])).map (t ++ ·) := by
          refine ⟨?_, ?_, ?_⟩
          · rw [take_snoc s j hj, List.drop_append_of_le_length (by rw [List.length_take, ← HZ.out]; omega), HS.out.1]
          · simp [HS.out.2.1, hd]
          · rw [HS.out.2.2, drop_cons s j hj, Va.tmG_dig hd]
        have HE := Lib.hid hE
        obtain ⟨i1, i2⟩ := Va.isD_int hd
        clear hE hd
        go_wp2
        go_roundg (s.size - (j + 1))
        case measure => have := HG.out; omega
        case rel => exact ⟨_, n, _, t, d ++ [s[j]], p, j + 1, rfl, by go_num, by go_num, by omega, by rw [List.length_append, List.length_singleton]; omega, by omega, HO.out, HR.out, HE⟩
    · have hz : s.size = j := by omega
      have hdr : s.data.toList.drop j = [] := List.drop_eq_nil_of_le (by rw [← HZ.out]; omega)
      have htl : t.length = n := by
        have := (HO.out).1
        rw [cel_len] at this
        omega
      by_cases hd0 : d = []
      · have hE : Va.tm s.data.toList = some t := by
          rw [HS.out.2.2, hdr, hd0, Va.tmG, if_pos rfl]; simp
        have HE := Lib.hid hE
        obtain rfl : p = j := by subst hd0; simpa using hpd
        clear hE hdr
        by_cases hn0 : n = 0
        · have ht0 : t = [] := List.eq_nil_of_length_eq_zero (by omega)
          have HT := Lib.hid ht0
          clear ht0 htl
          subst hd0
          go_wp2
          go_ret2
          exact ⟨_, _, _, _, [], rfl, HR.out, fun h => by (cases h), fun _ => .inr (by rw [HE.out, HT.out])⟩
        · have hnn : decide (0 < n) = true := decide_eq_true (by omega)
          have HT := Lib.hid htl
          clear htl
          subst hd0
          go_wp2
          go_ret2
          exact ⟨_, _, _, _, t, rfl, HR.out, fun _ => ⟨HE.out, fun h => by rw [h] at HT; exact hn0 HT.out.symm, HO.out.tms⟩, fun h => by (cases h)⟩
      · have hE : Va.tm s.data.toList = none := by
          rw [HS.out.2.2, hdr, Va.tmG, if_neg hd0]; rfl
        have HE := Lib.hid hE
        have hp0 : 0 < d.length := List.length_pos_iff.2 hd0
        have hps : ((p : Int) == j) = false := by simp; omega
        clear hE hdr htl
        go_wp2
        go_ret2
        exact ⟨_, _, _, _, [], rfl, HR.out, fun h => by (cases h), fun _ => .inl HE.out⟩
end Go.Proofs.YtafpdiikhhikeaaDoor
