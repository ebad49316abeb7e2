/- What the reference's next returns: the walks. -/
import Derived.Test.YtpcmhaflmpcicaaDoorRefNx
import Derived.Test.YtpcmhaflmpcicaaDoorFdLib
namespace Go.Proofs.YtpcmhaflmpcicaaDoor
open Go.RowKit

theorem getb (s : ByteArray) (i : Nat) (h : i < s.size) : s[i] = s.get! i := by
  have h2 : i < s.data.size := h
  exact (getElem!_pos s.data i h2).symm
set_option maxHeartbeats 2000000 in
set_option maxRecDepth 100000 in
theorem next_1 (s : ByteArray) (i : Nat) (w : World) (h : i < s.size) (hc : (s.get! i).toNat < 128) :
    Calls Tryd.prog 48 #[.string s, .int .i64 (i : Int)] w fun e w' => e = .returned (.int .i64 (Fd.nx (s.data.toList.drop i) : Int)) ∧ w = w' := by
  rw [Fd.nx_at, Fd.nxN_1 _ _ _ _ _ hc]
  have hb : (s[i].toNat : Int) < 128 := by rw [getb s i h]; omega
  go_enter Tryd.func48, Tryd.ntmps48
  go_wp2
  go_ret
  exact ⟨rfl, rfl⟩
set_option maxHeartbeats 2000000 in
set_option maxRecDepth 100000 in
theorem next_0 (s : ByteArray) (i : Nat) (w : World) (h : i < s.size) (hc : (128 ≤ (s.get! i).toNat ∧ (s.get! i).toNat < 194) ∨ 245 ≤ (s.get! i).toNat) :
    Calls Tryd.prog 48 #[.string s, .int .i64 (i : Int)] w fun e w' => e = .returned (.int .i64 (Fd.nx (s.data.toList.drop i) : Int)) ∧ w = w' := by
  have h256 : (s.get! i).toNat < 256 := UInt8.toNat_lt _
  rw [Fd.nx_at, Fd.nxN_0 _ _ _ _ _ (by omega)]
  have hb : s[i].toNat = (s.get! i).toNat := by rw [getb s i h]
  rcases hc with ⟨h1, h2⟩ | h1
  · have hb1 : (128 : Int) ≤ (s[i].toNat : Int) := by omega
    have hb2 : (s[i].toNat : Int) < 194 := by omega
    clear hb h1 h2
    go_enter Tryd.func48, Tryd.ntmps48
    go_wp2
    go_ret
    exact ⟨rfl, rfl⟩
  · have hb1 : (245 : Int) ≤ (s[i].toNat : Int) := by omega
    clear hb h1
    go_enter Tryd.func48, Tryd.ntmps48
    go_wp2
    go_ret
    exact ⟨rfl, rfl⟩
set_option maxHeartbeats 4000000 in
set_option maxRecDepth 100000 in
theorem next_2 (s : ByteArray) (i : Nat) (w : World) (h : i < s.size) (hs : s.size ≤ 140737488355328) (hc : 194 ≤ (s.get! i).toNat ∧ (s.get! i).toNat < 224) :
    Calls Tryd.prog 48 #[.string s, .int .i64 (i : Int)] w fun e w' => e = .returned (.int .i64 (Fd.nx (s.data.toList.drop i) : Int)) ∧ w = w' := by
  have h256 : ∀ k, (s.get! k).toNat < 256 := fun k => UInt8.toNat_lt _
  have hE := Fd.nxN_2 (s.size - i) (s.get! i).toNat (s.get! (i + 1)).toNat (s.get! (i + 2)).toNat (s.get! (i + 3)).toNat hc (h256 _)
  rw [Fd.nx_at]
  obtain ⟨R, hR⟩ : ∃ R, Fd.nxN (s.size - i) (s.get! i).toNat (s.get! (i + 1)).toNat (s.get! (i + 2)).toNat (s.get! (i + 3)).toNat = R := ⟨_, rfl⟩
  rw [hR] at hE ⊢
  have HR := Lib.hid hE
  clear hR hE
  have hb : s[i].toNat = (s.get! i).toNat := by rw [getb s i h]
  have hb1 : (194 : Int) ≤ (s[i].toNat : Int) := by omega
  have hb2 : (s[i].toNat : Int) < 224 := by omega
  have HB := Lib.hid hb
  clear hb hc h256
  by_cases hf : i + 2 ≤ s.size
  · go_enter Tryd.func48, Tryd.ntmps48
    go_wp2
    go_loopg [7] 2 (fun g v wx => ∃ k : Nat, v = .int .i64 (k : Int) ∧ k + g = 3 ∧ 1 ≤ k ∧ k ≤ 2 ∧ w = wx ∧ ∀ j, 1 ≤ j → j < k → Fd.co (s.get! (i + j)).toNat)
    case atStart => exact ⟨1, rfl, by omega, by omega, by omega, rfl, fun j _ _ => by omega⟩
    case round =>
      obtain ⟨k, rfl, hkg, hk1, hk2, rfl, hco⟩ := hrel
      have HC := Lib.hid hco
      have HG := Lib.hid hkg
      clear hco hkg
      by_cases hk : k < 2
      · have hik : i + k < s.size := by omega
        have hbk : s[i + k].toNat = (s.get! (i + k)).toNat := by rw [getb s (i + k) hik]
        by_cases hd : Fd.co (s.get! (i + k)).toNat
        · have hd1 : (128 : Int) ≤ (s[i + k].toNat : Int) := by have := hd.1; omega
          have hd2 : (s[i + k].toNat : Int) ≤ 191 := by have := hd.2; omega
          have HD := Lib.hid hd
          clear hbk hd
          go_wp2
          go_roundg (gk - 1)
          case measure => have := HG.out; omega
          case rel => exact ⟨k + 1, by go_num, by have := HG.out; omega, by omega, by omega, rfl, fun j h1 h2 => by
            rcases Nat.lt_or_ge j k with h3 | h3
            · exact HC.out j h1 h3
            · have : j = k := by omega
              subst this; exact HD.out⟩
        · have HZ := Lib.hid hd
          have hd' : ((s[i + k].toNat : Int) < 128) ∨ (191 < (s[i + k].toNat : Int)) := by unfold Fd.co at hd; omega
          clear hbk hd
          rcases hd' with hd' | hd'
          · go_wp2
            go_ret
            rw [HR.out, if_neg (by
              rintro ⟨_, c1⟩
              have hkk : k = 1 := by omega
              rcases hkk with rfl
              · exact HZ.out c1)]
            exact ⟨rfl, rfl⟩
          · go_wp2
            go_ret
            rw [HR.out, if_neg (by
              rintro ⟨_, c1⟩
              have hkk : k = 1 := by omega
              rcases hkk with rfl
              · exact HZ.out c1)]
            exact ⟨rfl, rfl⟩
      · obtain rfl : k = 2 := by omega
        have c1 := HC.out 1 (by omega) (by omega)
        have hi1 : i + 1 < s.size := by omega
        have hbd : s[i + 1].toNat = (s.get! (i + 1)).toNat := by rw [getb s (i + 1) hi1]
        have hb := HB.out
        have HS := Lib.hid (And.intro hb hbd)
        have HCC := Lib.hid (c1)
        have q224 : ((s[i].toNat : Int) == 224) = false := by simp; omega
        have q237 : ((s[i].toNat : Int) == 237) = false := by simp; omega
        have q240 : ((s[i].toNat : Int) == 240) = false := by simp; omega
        have q244 : ((s[i].toNat : Int) == 244) = false := by simp; omega
        clear hb hbd c1
        go_wp2
        go_ret
        rw [HR.out, if_pos ⟨by omega, HCC.out⟩]
        exact ⟨rfl, rfl⟩
  · clear HB
    go_enter Tryd.func48, Tryd.ntmps48
    go_wp2
    go_ret
    rw [HR.out, if_neg (by omega)]
    exact ⟨rfl, rfl⟩
set_option maxHeartbeats 4000000 in
set_option maxRecDepth 100000 in
theorem next_3 (s : ByteArray) (i : Nat) (w : World) (h : i < s.size) (hs : s.size ≤ 140737488355328) (hc : 224 ≤ (s.get! i).toNat ∧ (s.get! i).toNat < 240) :
    Calls Tryd.prog 48 #[.string s, .int .i64 (i : Int)] w fun e w' => e = .returned (.int .i64 (Fd.nx (s.data.toList.drop i) : Int)) ∧ w = w' := by
  have h256 : ∀ k, (s.get! k).toNat < 256 := fun k => UInt8.toNat_lt _
  have hE := Fd.nxN_3 (s.size - i) (s.get! i).toNat (s.get! (i + 1)).toNat (s.get! (i + 2)).toNat (s.get! (i + 3)).toNat hc (h256 _) (h256 _)
  rw [Fd.nx_at]
  obtain ⟨R, hR⟩ : ∃ R, Fd.nxN (s.size - i) (s.get! i).toNat (s.get! (i + 1)).toNat (s.get! (i + 2)).toNat (s.get! (i + 3)).toNat = R := ⟨_, rfl⟩
  rw [hR] at hE ⊢
  have HR := Lib.hid hE
  clear hR hE
  have hb : s[i].toNat = (s.get! i).toNat := by rw [getb s i h]
  have hb1 : (224 : Int) ≤ (s[i].toNat : Int) := by omega
  have hb2 : (s[i].toNat : Int) < 240 := by omega
  have HB := Lib.hid hb
  clear hb hc h256
  by_cases hf : i + 3 ≤ s.size
  · go_enter Tryd.func48, Tryd.ntmps48
    go_wp2
    go_loopg [7] 3 (fun g v wx => ∃ k : Nat, v = .int .i64 (k : Int) ∧ k + g = 4 ∧ 1 ≤ k ∧ k ≤ 3 ∧ w = wx ∧ ∀ j, 1 ≤ j → j < k → Fd.co (s.get! (i + j)).toNat)
    case atStart => exact ⟨1, rfl, by omega, by omega, by omega, rfl, fun j _ _ => by omega⟩
    case round =>
      obtain ⟨k, rfl, hkg, hk1, hk2, rfl, hco⟩ := hrel
      have HC := Lib.hid hco
      have HG := Lib.hid hkg
      clear hco hkg
      by_cases hk : k < 3
      · have hik : i + k < s.size := by omega
        have hbk : s[i + k].toNat = (s.get! (i + k)).toNat := by rw [getb s (i + k) hik]
        by_cases hd : Fd.co (s.get! (i + k)).toNat
        · have hd1 : (128 : Int) ≤ (s[i + k].toNat : Int) := by have := hd.1; omega
          have hd2 : (s[i + k].toNat : Int) ≤ 191 := by have := hd.2; omega
          have HD := Lib.hid hd
          clear hbk hd
          go_wp2
          go_roundg (gk - 1)
          case measure => have := HG.out; omega
          case rel => exact ⟨k + 1, by go_num, by have := HG.out; omega, by omega, by omega, rfl, fun j h1 h2 => by
            rcases Nat.lt_or_ge j k with h3 | h3
            · exact HC.out j h1 h3
            · have : j = k := by omega
              subst this; exact HD.out⟩
        · have HZ := Lib.hid hd
          have hd' : ((s[i + k].toNat : Int) < 128) ∨ (191 < (s[i + k].toNat : Int)) := by unfold Fd.co at hd; omega
          clear hbk hd
          rcases hd' with hd' | hd'
          · go_wp2
            go_ret
            rw [HR.out, if_neg (by
              rintro ⟨_, c1, c2, _⟩
              have hkk : k = 1 ∨ k = 2 := by omega
              rcases hkk with rfl | rfl
              · exact HZ.out c1
              · exact HZ.out c2)]
            exact ⟨rfl, rfl⟩
          · go_wp2
            go_ret
            rw [HR.out, if_neg (by
              rintro ⟨_, c1, c2, _⟩
              have hkk : k = 1 ∨ k = 2 := by omega
              rcases hkk with rfl | rfl
              · exact HZ.out c1
              · exact HZ.out c2)]
            exact ⟨rfl, rfl⟩
      · obtain rfl : k = 3 := by omega
        have c1 := HC.out 1 (by omega) (by omega)
        have c2 := HC.out 2 (by omega) (by omega)
        have hi1 : i + 1 < s.size := by omega
        have hbd : s[i + 1].toNat = (s.get! (i + 1)).toNat := by rw [getb s (i + 1) hi1]
        have hb := HB.out
        have HS := Lib.hid (And.intro hb hbd)
        have HCC := Lib.hid (And.intro c1 c2)
        by_cases s1 : s[i].toNat = 224
        · by_cases s2 : s[i + 1].toNat < 160
          · have hd1 : (s[i + 1].toNat : Int) < 160 := by omega
            have q224 : ((s[i].toNat : Int) == 224) = true := by simp; omega
            have q237 : ((s[i].toNat : Int) == 237) = false := by simp; omega
            have q240 : ((s[i].toNat : Int) == 240) = false := by simp; omega
            have q244 : ((s[i].toNat : Int) == 244) = false := by simp; omega
            clear hb hbd c1 c2
            go_wp2
            go_ret
            have e1 := HS.out
            rw [HR.out, if_neg (by omega)]
            exact ⟨rfl, rfl⟩
          · have hd1 : (160 : Int) ≤ (s[i + 1].toNat : Int) := by omega
            have q224 : ((s[i].toNat : Int) == 224) = true := by simp; omega
            have q237 : ((s[i].toNat : Int) == 237) = false := by simp; omega
            have q240 : ((s[i].toNat : Int) == 240) = false := by simp; omega
            have q244 : ((s[i].toNat : Int) == 244) = false := by simp; omega
            clear hb hbd c1 c2
            go_wp2
            go_ret
            have e1 := HS.out
            rw [HR.out, if_pos ⟨by omega, HCC.out.1, HCC.out.2, by omega, by omega⟩]
            exact ⟨rfl, rfl⟩
        · by_cases s3 : s[i].toNat = 237
          · by_cases s2 : 159 < s[i + 1].toNat
            · have hd1 : (159 : Int) < (s[i + 1].toNat : Int) := by omega
              have q224 : ((s[i].toNat : Int) == 224) = false := by simp; omega
              have q237 : ((s[i].toNat : Int) == 237) = true := by simp; omega
              have q240 : ((s[i].toNat : Int) == 240) = false := by simp; omega
              have q244 : ((s[i].toNat : Int) == 244) = false := by simp; omega
              clear hb hbd c1 c2
              go_wp2
              go_ret
              have e1 := HS.out
              rw [HR.out, if_neg (by omega)]
              exact ⟨rfl, rfl⟩
            · have hd1 : (s[i + 1].toNat : Int) ≤ 159 := by omega
              have q224 : ((s[i].toNat : Int) == 224) = false := by simp; omega
              have q237 : ((s[i].toNat : Int) == 237) = true := by simp; omega
              have q240 : ((s[i].toNat : Int) == 240) = false := by simp; omega
              have q244 : ((s[i].toNat : Int) == 244) = false := by simp; omega
              clear hb hbd c1 c2
              go_wp2
              go_ret
              have e1 := HS.out
              rw [HR.out, if_pos ⟨by omega, HCC.out.1, HCC.out.2, by omega, by omega⟩]
              exact ⟨rfl, rfl⟩
          · skip
            have q224 : ((s[i].toNat : Int) == 224) = false := by simp; omega
            have q237 : ((s[i].toNat : Int) == 237) = false := by simp; omega
            have q240 : ((s[i].toNat : Int) == 240) = false := by simp; omega
            have q244 : ((s[i].toNat : Int) == 244) = false := by simp; omega
            clear hb hbd c1 c2
            go_wp2
            go_ret
            have e1 := HS.out
            rw [HR.out, if_pos ⟨by omega, HCC.out.1, HCC.out.2, by omega, by omega⟩]
            exact ⟨rfl, rfl⟩
  · clear HB
    go_enter Tryd.func48, Tryd.ntmps48
    go_wp2
    go_ret
    rw [HR.out, if_neg (by omega)]
    exact ⟨rfl, rfl⟩
set_option maxHeartbeats 4000000 in
set_option maxRecDepth 100000 in
theorem next_4 (s : ByteArray) (i : Nat) (w : World) (h : i < s.size) (hs : s.size ≤ 140737488355328) (hc : 240 ≤ (s.get! i).toNat ∧ (s.get! i).toNat < 245) :
    Calls Tryd.prog 48 #[.string s, .int .i64 (i : Int)] w fun e w' => e = .returned (.int .i64 (Fd.nx (s.data.toList.drop i) : Int)) ∧ w = w' := by
  have h256 : ∀ k, (s.get! k).toNat < 256 := fun k => UInt8.toNat_lt _
  have hE := Fd.nxN_4 (s.size - i) (s.get! i).toNat (s.get! (i + 1)).toNat (s.get! (i + 2)).toNat (s.get! (i + 3)).toNat hc (h256 _) (h256 _) (h256 _)
  rw [Fd.nx_at]
  obtain ⟨R, hR⟩ : ∃ R, Fd.nxN (s.size - i) (s.get! i).toNat (s.get! (i + 1)).toNat (s.get! (i + 2)).toNat (s.get! (i + 3)).toNat = R := ⟨_, rfl⟩
  rw [hR] at hE ⊢
  have HR := Lib.hid hE
  clear hR hE
  have hb : s[i].toNat = (s.get! i).toNat := by rw [getb s i h]
  have hb1 : (240 : Int) ≤ (s[i].toNat : Int) := by omega
  have hb2 : (s[i].toNat : Int) < 245 := by omega
  have HB := Lib.hid hb
  clear hb hc h256
  by_cases hf : i + 4 ≤ s.size
  · go_enter Tryd.func48, Tryd.ntmps48
    go_wp2
    go_loopg [7] 4 (fun g v wx => ∃ k : Nat, v = .int .i64 (k : Int) ∧ k + g = 5 ∧ 1 ≤ k ∧ k ≤ 4 ∧ w = wx ∧ ∀ j, 1 ≤ j → j < k → Fd.co (s.get! (i + j)).toNat)
    case atStart => exact ⟨1, rfl, by omega, by omega, by omega, rfl, fun j _ _ => by omega⟩
    case round =>
      obtain ⟨k, rfl, hkg, hk1, hk2, rfl, hco⟩ := hrel
      have HC := Lib.hid hco
      have HG := Lib.hid hkg
      clear hco hkg
      by_cases hk : k < 4
      · have hik : i + k < s.size := by omega
        have hbk : s[i + k].toNat = (s.get! (i + k)).toNat := by rw [getb s (i + k) hik]
        by_cases hd : Fd.co (s.get! (i + k)).toNat
        · have hd1 : (128 : Int) ≤ (s[i + k].toNat : Int) := by have := hd.1; omega
          have hd2 : (s[i + k].toNat : Int) ≤ 191 := by have := hd.2; omega
          have HD := Lib.hid hd
          clear hbk hd
          go_wp2
          go_roundg (gk - 1)
          case measure => have := HG.out; omega
          case rel => exact ⟨k + 1, by go_num, by have := HG.out; omega, by omega, by omega, rfl, fun j h1 h2 => by
            rcases Nat.lt_or_ge j k with h3 | h3
            · exact HC.out j h1 h3
            · have : j = k := by omega
              subst this; exact HD.out⟩
        · have HZ := Lib.hid hd
          have hd' : ((s[i + k].toNat : Int) < 128) ∨ (191 < (s[i + k].toNat : Int)) := by unfold Fd.co at hd; omega
          clear hbk hd
          rcases hd' with hd' | hd'
          · go_wp2
            go_ret
            rw [HR.out, if_neg (by
              rintro ⟨_, c1, c2, c3, _⟩
              have hkk : k = 1 ∨ k = 2 ∨ k = 3 := by omega
              rcases hkk with rfl | rfl | rfl
              · exact HZ.out c1
              · exact HZ.out c2
              · exact HZ.out c3)]
            exact ⟨rfl, rfl⟩
          · go_wp2
            go_ret
            rw [HR.out, if_neg (by
              rintro ⟨_, c1, c2, c3, _⟩
              have hkk : k = 1 ∨ k = 2 ∨ k = 3 := by omega
              rcases hkk with rfl | rfl | rfl
              · exact HZ.out c1
              · exact HZ.out c2
              · exact HZ.out c3)]
            exact ⟨rfl, rfl⟩
      · obtain rfl : k = 4 := by omega
        have c1 := HC.out 1 (by omega) (by omega)
        have c2 := HC.out 2 (by omega) (by omega)
        have c3 := HC.out 3 (by omega) (by omega)
        have hi1 : i + 1 < s.size := by omega
        have hbd : s[i + 1].toNat = (s.get! (i + 1)).toNat := by rw [getb s (i + 1) hi1]
        have hb := HB.out
        have HS := Lib.hid (And.intro hb hbd)
        have HCC := Lib.hid (And.intro c1 (And.intro c2 c3))
        by_cases s1 : s[i].toNat = 240
        · by_cases s2 : s[i + 1].toNat < 144
          · have hd1 : (s[i + 1].toNat : Int) < 144 := by omega
            have q224 : ((s[i].toNat : Int) == 224) = false := by simp; omega
            have q237 : ((s[i].toNat : Int) == 237) = false := by simp; omega
            have q240 : ((s[i].toNat : Int) == 240) = true := by simp; omega
            have q244 : ((s[i].toNat : Int) == 244) = false := by simp; omega
            clear hb hbd c1 c2 c3
            go_wp2
            go_ret
            have e1 := HS.out
            rw [HR.out, if_neg (by omega)]
            exact ⟨rfl, rfl⟩
          · have hd1 : (144 : Int) ≤ (s[i + 1].toNat : Int) := by omega
            have q224 : ((s[i].toNat : Int) == 224) = false := by simp; omega
            have q237 : ((s[i].toNat : Int) == 237) = false := by simp; omega
            have q240 : ((s[i].toNat : Int) == 240) = true := by simp; omega
            have q244 : ((s[i].toNat : Int) == 244) = false := by simp; omega
            clear hb hbd c1 c2 c3
            go_wp2
            go_ret
            have e1 := HS.out
            rw [HR.out, if_pos ⟨by omega, HCC.out.1, HCC.out.2.1, HCC.out.2.2, by omega, by omega⟩]
            exact ⟨rfl, rfl⟩
        · by_cases s3 : s[i].toNat = 244
          · by_cases s2 : 143 < s[i + 1].toNat
            · have hd1 : (143 : Int) < (s[i + 1].toNat : Int) := by omega
              have q224 : ((s[i].toNat : Int) == 224) = false := by simp; omega
              have q237 : ((s[i].toNat : Int) == 237) = false := by simp; omega
              have q240 : ((s[i].toNat : Int) == 240) = false := by simp; omega
              have q244 : ((s[i].toNat : Int) == 244) = true := by simp; omega
              clear hb hbd c1 c2 c3
              go_wp2
              go_ret
              have e1 := HS.out
              rw [HR.out, if_neg (by omega)]
              exact ⟨rfl, rfl⟩
            · have hd1 : (s[i + 1].toNat : Int) ≤ 143 := by omega
              have q224 : ((s[i].toNat : Int) == 224) = false := by simp; omega
              have q237 : ((s[i].toNat : Int) == 237) = false := by simp; omega
              have q240 : ((s[i].toNat : Int) == 240) = false := by simp; omega
              have q244 : ((s[i].toNat : Int) == 244) = true := by simp; omega
              clear hb hbd c1 c2 c3
              go_wp2
              go_ret
              have e1 := HS.out
              rw [HR.out, if_pos ⟨by omega, HCC.out.1, HCC.out.2.1, HCC.out.2.2, by omega, by omega⟩]
              exact ⟨rfl, rfl⟩
          · skip
            have q224 : ((s[i].toNat : Int) == 224) = false := by simp; omega
            have q237 : ((s[i].toNat : Int) == 237) = false := by simp; omega
            have q240 : ((s[i].toNat : Int) == 240) = false := by simp; omega
            have q244 : ((s[i].toNat : Int) == 244) = false := by simp; omega
            clear hb hbd c1 c2 c3
            go_wp2
            go_ret
            have e1 := HS.out
            rw [HR.out, if_pos ⟨by omega, HCC.out.1, HCC.out.2.1, HCC.out.2.2, by omega, by omega⟩]
            exact ⟨rfl, rfl⟩
  · clear HB
    go_enter Tryd.func48, Tryd.ntmps48
    go_wp2
    go_ret
    rw [HR.out, if_neg (by omega)]
    exact ⟨rfl, rfl⟩
theorem next_any (s : ByteArray) (i : Nat) (w : World) (h : i < s.size) (hs : s.size ≤ 140737488355328) :
    Calls Tryd.prog 48 #[.string s, .int .i64 (i : Int)] w fun e w' => e = .returned (.int .i64 (Fd.nx (s.data.toList.drop i) : Int)) ∧ w = w' := by
  have h256 : (s.get! i).toNat < 256 := UInt8.toNat_lt _
  rcases (show (s.get! i).toNat < 128 ∨ ((128 ≤ (s.get! i).toNat ∧ (s.get! i).toNat < 194) ∨ 245 ≤ (s.get! i).toNat) ∨ (194 ≤ (s.get! i).toNat ∧ (s.get! i).toNat < 224) ∨ (224 ≤ (s.get! i).toNat ∧ (s.get! i).toNat < 240) ∨ (240 ≤ (s.get! i).toNat ∧ (s.get! i).toNat < 245) by omega) with c | c | c | c | c
  · exact next_1 s i w h c
  · exact next_0 s i w h c
  · exact next_2 s i w h hs c
  · exact next_3 s i w h hs c
  · exact next_4 s i w h hs c
end Go.Proofs.YtpcmhaflmpcicaaDoor
