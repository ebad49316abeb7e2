/- The texts RefNext, RefUtf, RefFold, RefTx, LnRef, LnRefP, one behind the other. -/
import Derived.Test.YtbfngdpdgmgfpaaDoorMA
import Derived.Test.YtbfngdpdgmgfpaaDoorMB
import Derived.Test.YtbfngdpdgmgfpaaDoorME
import Derived.Test.YtbfngdpdgmgfpaaDoorMC
import Derived.Test.YtbfngdpdgmgfpaaDoorMD
namespace Go.Proofs.YtbfngdpdgmgfpaaDoor
open Go.RowKit

theorem getb (s : ByteArray) (i : Nat) (h : i < s.size) : s[i] = s.get! i := by
  have h2 : i < s.data.size := h
  exact (getElem!_pos s.data i h2).symm
set_option maxHeartbeats 2000000 in
set_option maxRecDepth 100000 in
theorem next_1 (s : ByteArray) (i : Nat) (w : World) (h : i < s.size) (hc : (s.get! i).toNat < 128) :
    Calls Tryd.prog 69 #[.string s, .int .i64 (i : Int)] w fun e w' => e = .returned (.int .i64 (Fd.nx (s.data.toList.drop i) : Int)) ∧ w = w' := by
  rw [Fd.nx_at, Fd.nxN_1 _ _ _ _ _ hc]
  have hb : (s[i].toNat : Int) < 128 := by rw [getb s i h]; omega
  go_enter Tryd.func69, Tryd.ntmps69
  go_wp2
  go_ret
  exact ⟨rfl, rfl⟩
set_option maxHeartbeats 2000000 in
set_option maxRecDepth 100000 in
theorem next_0 (s : ByteArray) (i : Nat) (w : World) (h : i < s.size) (hc : (128 ≤ (s.get! i).toNat ∧ (s.get! i).toNat < 194) ∨ 245 ≤ (s.get! i).toNat) :
    Calls Tryd.prog 69 #[.string s, .int .i64 (i : Int)] w fun e w' => e = .returned (.int .i64 (Fd.nx (s.data.toList.drop i) : Int)) ∧ w = w' := by
  have h256 : (s.get! i).toNat < 256 := UInt8.toNat_lt _
  rw [Fd.nx_at, Fd.nxN_0 _ _ _ _ _ (by omega)]
  have hb : s[i].toNat = (s.get! i).toNat := by rw [getb s i h]
  rcases hc with ⟨h1, h2⟩ | h1
  · have hb1 : (128 : Int) ≤ (s[i].toNat : Int) := by omega
    have hb2 : (s[i].toNat : Int) < 194 := by omega
    clear hb h1 h2
    go_enter Tryd.func69, Tryd.ntmps69
    go_wp2
    go_ret
    exact ⟨rfl, rfl⟩
  · have hb1 : (245 : Int) ≤ (s[i].toNat : Int) := by omega
    clear hb h1
    go_enter Tryd.func69, Tryd.ntmps69
    go_wp2
    go_ret
    exact ⟨rfl, rfl⟩
set_option maxHeartbeats 4000000 in
set_option maxRecDepth 100000 in
theorem next_2 (s : ByteArray) (i : Nat) (w : World) (h : i < s.size) (hs : s.size ≤ 140737488355328) (hc : 194 ≤ (s.get! i).toNat ∧ (s.get! i).toNat < 224) :
    Calls Tryd.prog 69 #[.string s, .int .i64 (i : Int)] w fun e w' => e = .returned (.int .i64 (Fd.nx (s.data.toList.drop i) : Int)) ∧ w = w' := by
  have h256 : ∀ k, (s.get! k).toNat < 256 := fun k => UInt8.toNat_lt _
  have hE := Fd.nxN_2 (s.size - i) (s.get! i).toNat (s.get! (i + 1)).toNat (s.get! (i + 2)).toNat (s.get! (i + 3)).toNat hc (h256 _)
  rw [Fd.nx_at]
  obtain ⟨R, hR⟩ : ∃ R, Fd.nxN (s.size - i) (s.get! i).toNat (s.get! (i + 1)).toNat (s.get! (i + 2)).toNat (s.get! (i + 3)).toNat = R := ⟨_, rfl⟩
  rw [hR] at hE ⊢
  have HR := Lib.hid hE
  clear hR hE
  have hb : s[i].toNat = (s.get! i).toNat := by rw [getb s i h]
  have hb1 : (194 : Int) ≤ (s[i].toNat : Int) := by omega
  have hb2 : (s[i].toNat : Int) < 224 := by omega
  have HB := Lib.hid hb
  clear hb hc h256
  by_cases hf : i + 2 ≤ s.size
  · go_enter Tryd.func69, Tryd.ntmps69
    go_wp2
    go_loopg [7] 2 (fun g v wx => ∃ k : Nat, v = .int .i64 (k : Int) ∧ k + g = 3 ∧ 1 ≤ k ∧ k ≤ 2 ∧ w = wx ∧ ∀ j, 1 ≤ j → j < k → Fd.co (s.get! (i + j)).toNat)
    case atStart => exact ⟨1, rfl, by omega, by omega, by omega, rfl, fun j _ _ => by omega⟩
    case round =>
      obtain ⟨k, rfl, hkg, hk1, hk2, rfl, hco⟩ := hrel
      have HC := Lib.hid hco
      have HG := Lib.hid hkg
      clear hco hkg
      by_cases hk : k < 2
      · have hik : i + k < s.size := by omega
        have hbk : s[i + k].toNat = (s.get! (i + k)).toNat := by rw [getb s (i + k) hik]
        by_cases hd : Fd.co (s.get! (i + k)).toNat
        · have hd1 : (128 : Int) ≤ (s[i + k].toNat : Int) := by have := hd.1; omega
          have hd2 : (s[i + k].toNat : Int) ≤ 191 := by have := hd.2; omega
          have HD := Lib.hid hd
          clear hbk hd
          go_wp2
          go_roundg (gk - 1)
          case measure => have := HG.out; omega
          case rel => exact ⟨k + 1, by go_num, by have := HG.out; omega, by omega, by omega, rfl, fun j h1 h2 => by
            rcases Nat.lt_or_ge j k with h3 | h3
            · exact HC.out j h1 h3
            · have : j = k := by omega
              subst this; exact HD.out⟩
        · have HZ := Lib.hid hd
          have hd' : ((s[i + k].toNat : Int) < 128) ∨ (191 < (s[i + k].toNat : Int)) := by unfold Fd.co at hd; omega
          clear hbk hd
          rcases hd' with hd' | hd'
          · go_wp2
            go_ret
            rw [HR.out, if_neg (by
              rintro ⟨_, c1⟩
              have hkk : k = 1 := by omega
              rcases hkk with rfl
              · exact HZ.out c1)]
            exact ⟨rfl, rfl⟩
          · go_wp2
            go_ret
            rw [HR.out, if_neg (by
              rintro ⟨_, c1⟩
              have hkk : k = 1 := by omega
              rcases hkk with rfl
              · exact HZ.out c1)]
            exact ⟨rfl, rfl⟩
      · obtain rfl : k = 2 := by omega
        have c1 := HC.out 1 (by omega) (by omega)
        have hi1 : i + 1 < s.size := by omega
        have hbd : s[i + 1].toNat = (s.get! (i + 1)).toNat := by rw [getb s (i + 1) hi1]
        have hb := HB.out
        have HS := Lib.hid (And.intro hb hbd)
        have HCC := Lib.hid (c1)
        have q224 : ((s[i].toNat : Int) == 224) = false := by simp; omega
        have q237 : ((s[i].toNat : Int) == 237) = false := by simp; omega
        have q240 : ((s[i].toNat : Int) == 240) = false := by simp; omega
        have q244 : ((s[i].toNat : Int) == 244) = false := by simp; omega
        clear hb hbd c1
        go_wp2
        go_ret
        rw [HR.out, if_pos ⟨by omega, HCC.out⟩]
        exact ⟨rfl, rfl⟩
  · clear HB
    go_enter Tryd.func69, Tryd.ntmps69
    go_wp2
    go_ret
    rw [HR.out, if_neg (by omega)]
    exact ⟨rfl, rfl⟩
set_option maxHeartbeats 4000000 in
set_option maxRecDepth 100000 in
theorem next_3 (s : ByteArray) (i : Nat) (w : World) (h : i < s.size) (hs : s.size ≤ 140737488355328) (hc : 224 ≤ (s.get! i).toNat ∧ (s.get! i).toNat < 240) :
    Calls Tryd.prog 69 #[.string s, .int .i64 (i : Int)] w fun e w' => e = .returned (.int .i64 (Fd.nx (s.data.toList.drop i) : Int)) ∧ w = w' := by
  have h256 : ∀ k, (s.get! k).toNat < 256 := fun k => UInt8.toNat_lt _
  have hE := Fd.nxN_3 (s.size - i) (s.get! i).toNat (s.get! (i + 1)).toNat (s.get! (i + 2)).toNat (s.get! (i + 3)).toNat hc (h256 _) (h256 _)
  rw [Fd.nx_at]
  obtain ⟨R, hR⟩ : ∃ R, Fd.nxN (s.size - i) (s.get! i).toNat (s.get! (i + 1)).toNat (s.get! (i + 2)).toNat (s.get! (i + 3)).toNat = R := ⟨_, rfl⟩
  rw [hR] at hE ⊢
  have HR := Lib.hid hE
  clear hR hE
  have hb : s[i].toNat = (s.get! i).toNat := by rw [getb s i h]
  have hb1 : (224 : Int) ≤ (s[i].toNat : Int) := by omega
  have hb2 : (s[i].toNat : Int) < 240 := by omega
  have HB := Lib.hid hb
  clear hb hc h256
  by_cases hf : i + 3 ≤ s.size
  · go_enter Tryd.func69, Tryd.ntmps69
    go_wp2
    go_loopg [7] 3 (fun g v wx => ∃ k : Nat, v = .int .i64 (k : Int) ∧ k + g = 4 ∧ 1 ≤ k ∧ k ≤ 3 ∧ w = wx ∧ ∀ j, 1 ≤ j → j < k → Fd.co (s.get! (i + j)).toNat)
    case atStart => exact ⟨1, rfl, by omega, by omega, by omega, rfl, fun j _ _ => by omega⟩
    case round =>
      obtain ⟨k, rfl, hkg, hk1, hk2, rfl, hco⟩ := hrel
      have HC := Lib.hid hco
      have HG := Lib.hid hkg
      clear hco hkg
      by_cases hk : k < 3
      · have hik : i + k < s.size := by omega
        have hbk : s[i + k].toNat = (s.get! (i + k)).toNat := by rw [getb s (i + k) hik]
        by_cases hd : Fd.co (s.get! (i + k)).toNat
        · have hd1 : (128 : Int) ≤ (s[i + k].toNat : Int) := by have := hd.1; omega
          have hd2 : (s[i + k].toNat : Int) ≤ 191 := by have := hd.2; omega
          have HD := Lib.hid hd
          clear hbk hd
          go_wp2
          go_roundg (gk - 1)
          case measure => have := HG.out; omega
          case rel => exact ⟨k + 1, by go_num, by have := HG.out; omega, by omega, by omega, rfl, fun j h1 h2 => by
            rcases Nat.lt_or_ge j k with h3 | h3
            · exact HC.out j h1 h3
            · have : j = k := by omega
              subst this; exact HD.out⟩
        · have HZ := Lib.hid hd
          have hd' : ((s[i + k].toNat : Int) < 128) ∨ (191 < (s[i + k].toNat : Int)) := by unfold Fd.co at hd; omega
          clear hbk hd
          rcases hd' with hd' | hd'
          · go_wp2
            go_ret
            rw [HR.out, if_neg (by
              rintro ⟨_, c1, c2, _⟩
              have hkk : k = 1 ∨ k = 2 := by omega
              rcases hkk with rfl | rfl
              · exact HZ.out c1
              · exact HZ.out c2)]
            exact ⟨rfl, rfl⟩
          · go_wp2
            go_ret
            rw [HR.out, if_neg (by
              rintro ⟨_, c1, c2, _⟩
              have hkk : k = 1 ∨ k = 2 := by omega
              rcases hkk with rfl | rfl
              · exact HZ.out c1
              · exact HZ.out c2)]
            exact ⟨rfl, rfl⟩
      · obtain rfl : k = 3 := by omega
        have c1 := HC.out 1 (by omega) (by omega)
        have c2 := HC.out 2 (by omega) (by omega)
        have hi1 : i + 1 < s.size := by omega
        have hbd : s[i + 1].toNat = (s.get! (i + 1)).toNat := by rw [getb s (i + 1) hi1]
        have hb := HB.out
        have HS := Lib.hid (And.intro hb hbd)
        have HCC := Lib.hid (And.intro c1 c2)
        by_cases s1 : s[i].toNat = 224
        · by_cases s2 : s[i + 1].toNat < 160
          · have hd1 : (s[i + 1].toNat : Int) < 160 := by omega
            have q224 : ((s[i].toNat : Int) == 224) = true := by simp; omega
            have q237 : ((s[i].toNat : Int) == 237) = false := by simp; omega
            have q240 : ((s[i].toNat : Int) == 240) = false := by simp; omega
            have q244 : ((s[i].toNat : Int) == 244) = false := by simp; omega
            clear hb hbd c1 c2
            go_wp2
            go_ret
            have e1 := HS.out
            rw [HR.out, if_neg (by omega)]
            exact ⟨rfl, rfl⟩
          · have hd1 : (160 : Int) ≤ (s[i + 1].toNat : Int) := by omega
            have q224 : ((s[i].toNat : Int) == 224) = true := by simp; omega
            have q237 : ((s[i].toNat : Int) == 237) = false := by simp; omega
            have q240 : ((s[i].toNat : Int) == 240) = false := by simp; omega
            have q244 : ((s[i].toNat : Int) == 244) = false := by simp; omega
            clear hb hbd c1 c2
            go_wp2
            go_ret
            have e1 := HS.out
            rw [HR.out, if_pos ⟨by omega, HCC.out.1, HCC.out.2, by omega, by omega⟩]
            exact ⟨rfl, rfl⟩
        · by_cases s3 : s[i].toNat = 237
          · by_cases s2 : 159 < s[i + 1].toNat
            · have hd1 : (159 : Int) < (s[i + 1].toNat : Int) := by omega
              have q224 : ((s[i].toNat : Int) == 224) = false := by simp; omega
              have q237 : ((s[i].toNat : Int) == 237) = true := by simp; omega
              have q240 : ((s[i].toNat : Int) == 240) = false := by simp; omega
              have q244 : ((s[i].toNat : Int) == 244) = false := by simp; omega
              clear hb hbd c1 c2
              go_wp2
              go_ret
              have e1 := HS.out
              rw [HR.out, if_neg (by omega)]
              exact ⟨rfl, rfl⟩
            · have hd1 : (s[i + 1].toNat : Int) ≤ 159 := by omega
              have q224 : ((s[i].toNat : Int) == 224) = false := by simp; omega
              have q237 : ((s[i].toNat : Int) == 237) = true := by simp; omega
              have q240 : ((s[i].toNat : Int) == 240) = false := by simp; omega
              have q244 : ((s[i].toNat : Int) == 244) = false := by simp; omega
              clear hb hbd c1 c2
              go_wp2
              go_ret
              have e1 := HS.out
              rw [HR.out, if_pos ⟨by omega, HCC.out.1, HCC.out.2, by omega, by omega⟩]
              exact ⟨rfl, rfl⟩
          · skip
            have q224 : ((s[i].toNat : Int) == 224) = false := by simp; omega
            have q237 : ((s[i].toNat : Int) == 237) = false := by simp; omega
            have q240 : ((s[i].toNat : Int) == 240) = false := by simp; omega
            have q244 : ((s[i].toNat : Int) == 244) = false := by simp; omega
            clear hb hbd c1 c2
            go_wp2
            go_ret
            have e1 := HS.out
            rw [HR.out, if_pos ⟨by omega, HCC.out.1, HCC.out.2, by omega, by omega⟩]
            exact ⟨rfl, rfl⟩
  · clear HB
    go_enter Tryd.func69, Tryd.ntmps69
    go_wp2
    go_ret
    rw [HR.out, if_neg (by omega)]
    exact ⟨rfl, rfl⟩
set_option maxHeartbeats 4000000 in
set_option maxRecDepth 100000 in
theorem next_4 (s : ByteArray) (i : Nat) (w : World) (h : i < s.size) (hs : s.size ≤ 140737488355328) (hc : 240 ≤ (s.get! i).toNat ∧ (s.get! i).toNat < 245) :
    Calls Tryd.prog 69 #[.string s, .int .i64 (i : Int)] w fun e w' => e = .returned (.int .i64 (Fd.nx (s.data.toList.drop i) : Int)) ∧ w = w' := by
  have h256 : ∀ k, (s.get! k).toNat < 256 := fun k => UInt8.toNat_lt _
  have hE := Fd.nxN_4 (s.size - i) (s.get! i).toNat (s.get! (i + 1)).toNat (s.get! (i + 2)).toNat (s.get! (i + 3)).toNat hc (h256 _) (h256 _) (h256 _)
  rw [Fd.nx_at]
  obtain ⟨R, hR⟩ : ∃ R, Fd.nxN (s.size - i) (s.get! i).toNat (s.get! (i + 1)).toNat (s.get! (i + 2)).toNat (s.get! (i + 3)).toNat = R := ⟨_, rfl⟩
  rw [hR] at hE ⊢
  have HR := Lib.hid hE
  clear hR hE
  have hb : s[i].toNat = (s.get! i).toNat := by rw [getb s i h]
  have hb1 : (240 : Int) ≤ (s[i].toNat : Int) := by omega
  have hb2 : (s[i].toNat : Int) < 245 := by omega
  have HB := Lib.hid hb
  clear hb hc h256
  by_cases hf : i + 4 ≤ s.size
  · go_enter Tryd.func69, Tryd.ntmps69
    go_wp2
    go_loopg [7] 4 (fun g v wx => ∃ k : Nat, v = .int .i64 (k : Int) ∧ k + g = 5 ∧ 1 ≤ k ∧ k ≤ 4 ∧ w = wx ∧ ∀ j, 1 ≤ j → j < k → Fd.co (s.get! (i + j)).toNat)
    case atStart => exact ⟨1, rfl, by omega, by omega, by omega, rfl, fun j _ _ => by omega⟩
    case round =>
      obtain ⟨k, rfl, hkg, hk1, hk2, rfl, hco⟩ := hrel
      have HC := Lib.hid hco
      have HG := Lib.hid hkg
      clear hco hkg
      by_cases hk : k < 4
      · have hik : i + k < s.size := by omega
        have hbk : s[i + k].toNat = (s.get! (i + k)).toNat := by rw [getb s (i + k) hik]
        by_cases hd : Fd.co (s.get! (i + k)).toNat
        · have hd1 : (128 : Int) ≤ (s[i + k].toNat : Int) := by have := hd.1; omega
          have hd2 : (s[i + k].toNat : Int) ≤ 191 := by have := hd.2; omega
          have HD := Lib.hid hd
          clear hbk hd
          go_wp2
          go_roundg (gk - 1)
          case measure => have := HG.out; omega
          case rel => exact ⟨k + 1, by go_num, by have := HG.out; omega, by omega, by omega, rfl, fun j h1 h2 => by
            rcases Nat.lt_or_ge j k with h3 | h3
            · exact HC.out j h1 h3
            · have : j = k := by omega
              subst this; exact HD.out⟩
        · have HZ := Lib.hid hd
          have hd' : ((s[i + k].toNat : Int) < 128) ∨ (191 < (s[i + k].toNat : Int)) := by unfold Fd.co at hd; omega
          clear hbk hd
          rcases hd' with hd' | hd'
          · go_wp2
            go_ret
            rw [HR.out, if_neg (by
              rintro ⟨_, c1, c2, c3, _⟩
              have hkk : k = 1 ∨ k = 2 ∨ k = 3 := by omega
              rcases hkk with rfl | rfl | rfl
              · exact HZ.out c1
              · exact HZ.out c2
              · exact HZ.out c3)]
            exact ⟨rfl, rfl⟩
          · go_wp2
            go_ret
            rw [HR.out, if_neg (by
              rintro ⟨_, c1, c2, c3, _⟩
              have hkk : k = 1 ∨ k = 2 ∨ k = 3 := by omega
              rcases hkk with rfl | rfl | rfl
              · exact HZ.out c1
              · exact HZ.out c2
              · exact HZ.out c3)]
            exact ⟨rfl, rfl⟩
      · obtain rfl : k = 4 := by omega
        have c1 := HC.out 1 (by omega) (by omega)
        have c2 := HC.out 2 (by omega) (by omega)
        have c3 := HC.out 3 (by omega) (by omega)
        have hi1 : i + 1 < s.size := by omega
        have hbd : s[i + 1].toNat = (s.get! (i + 1)).toNat := by rw [getb s (i + 1) hi1]
        have hb := HB.out
        have HS := Lib.hid (And.intro hb hbd)
        have HCC := Lib.hid (And.intro c1 (And.intro c2 c3))
        by_cases s1 : s[i].toNat = 240
        · by_cases s2 : s[i + 1].toNat < 144
          · have hd1 : (s[i + 1].toNat : Int) < 144 := by omega
            have q224 : ((s[i].toNat : Int) == 224) = false := by simp; omega
            have q237 : ((s[i].toNat : Int) == 237) = false := by simp; omega
            have q240 : ((s[i].toNat : Int) == 240) = true := by simp; omega
            have q244 : ((s[i].toNat : Int) == 244) = false := by simp; omega
            clear hb hbd c1 c2 c3
            go_wp2
            go_ret
            have e1 := HS.out
            rw [HR.out, if_neg (by omega)]
            exact ⟨rfl, rfl⟩
          · have hd1 : (144 : Int) ≤ (s[i + 1].toNat : Int) := by omega
            have q224 : ((s[i].toNat : Int) == 224) = false := by simp; omega
            have q237 : ((s[i].toNat : Int) == 237) = false := by simp; omega
            have q240 : ((s[i].toNat : Int) == 240) = true := by simp; omega
            have q244 : ((s[i].toNat : Int) == 244) = false := by simp; omega
            clear hb hbd c1 c2 c3
            go_wp2
            go_ret
            have e1 := HS.out
            rw [HR.out, if_pos ⟨by omega, HCC.out.1, HCC.out.2.1, HCC.out.2.2, by omega, by omega⟩]
            exact ⟨rfl, rfl⟩
        · by_cases s3 : s[i].toNat = 244
          · by_cases s2 : 143 < s[i + 1].toNat
            · have hd1 : (143 : Int) < (s[i + 1].toNat : Int) := by omega
              have q224 : ((s[i].toNat : Int) == 224) = false := by simp; omega
              have q237 : ((s[i].toNat : Int) == 237) = false := by simp; omega
              have q240 : ((s[i].toNat : Int) == 240) = false := by simp; omega
              have q244 : ((s[i].toNat : Int) == 244) = true := by simp; omega
              clear hb hbd c1 c2 c3
              go_wp2
              go_ret
              have e1 := HS.out
              rw [HR.out, if_neg (by omega)]
              exact ⟨rfl, rfl⟩
            · have hd1 : (s[i + 1].toNat : Int) ≤ 143 := by omega
              have q224 : ((s[i].toNat : Int) == 224) = false := by simp; omega
              have q237 : ((s[i].toNat : Int) == 237) = false := by simp; omega
              have q240 : ((s[i].toNat : Int) == 240) = false := by simp; omega
              have q244 : ((s[i].toNat : Int) == 244) = true := by simp; omega
              clear hb hbd c1 c2 c3
              go_wp2
              go_ret
              have e1 := HS.out
              rw [HR.out, if_pos ⟨by omega, HCC.out.1, HCC.out.2.1, HCC.out.2.2, by omega, by omega⟩]
              exact ⟨rfl, rfl⟩
          · skip
            have q224 : ((s[i].toNat : Int) == 224) = false := by simp; omega
            have q237 : ((s[i].toNat : Int) == 237) = false := by simp; omega
            have q240 : ((s[i].toNat : Int) == 240) = false := by simp; omega
            have q244 : ((s[i].toNat : Int) == 244) = false := by simp; omega
            clear hb hbd c1 c2 c3
            go_wp2
            go_ret
            have e1 := HS.out
            rw [HR.out, if_pos ⟨by omega, HCC.out.1, HCC.out.2.1, HCC.out.2.2, by omega, by omega⟩]
            exact ⟨rfl, rfl⟩
  · clear HB
    go_enter Tryd.func69, Tryd.ntmps69
    go_wp2
    go_ret
    rw [HR.out, if_neg (by omega)]
    exact ⟨rfl, rfl⟩
theorem next_any (s : ByteArray) (i : Nat) (w : World) (h : i < s.size) (hs : s.size ≤ 140737488355328) :
    Calls Tryd.prog 69 #[.string s, .int .i64 (i : Int)] w fun e w' => e = .returned (.int .i64 (Fd.nx (s.data.toList.drop i) : Int)) ∧ w = w' := by
  have h256 : (s.get! i).toNat < 256 := UInt8.toNat_lt _
  rcases (show (s.get! i).toNat < 128 ∨ ((128 ≤ (s.get! i).toNat ∧ (s.get! i).toNat < 194) ∨ 245 ≤ (s.get! i).toNat) ∨ (194 ≤ (s.get! i).toNat ∧ (s.get! i).toNat < 224) ∨ (224 ≤ (s.get! i).toNat ∧ (s.get! i).toNat < 240) ∨ (240 ≤ (s.get! i).toNat ∧ (s.get! i).toNat < 245) by omega) with c | c | c | c | c
  · exact next_1 s i w h c
  · exact next_0 s i w h c
  · exact next_2 s i w h hs c
  · exact next_3 s i w h hs c
  · exact next_4 s i w h hs c
end Go.Proofs.YtbfngdpdgmgfpaaDoor
namespace Go.Proofs.YtbfngdpdgmgfpaaDoor
open Go.RowKit

set_option maxHeartbeats 1000000 in
theorem size_any (s : ByteArray) (i : Nat) (w : World) (h : i < s.size) (hs : s.size ≤ 140737488355328) :
    Calls Tryd.prog 48 #[.string s, .int .i64 (i : Int)] w fun e w' => e = .returned (.int .i64 (Fd.wd (s.data.toList.drop i) : Int)) ∧ w = w' := by
  have cN := fun w => next_any s i w h hs
  have hc := Fd.nx_cases (s.data.toList.drop i)
  have hp := Fd.wd_pos (s.data.toList.drop i)
  have h4 := Fd.wd_le4 (s.data.toList.drop i)
  generalize Fd.wd (s.data.toList.drop i) = k at *
  generalize Fd.nx (s.data.toList.drop i) = m at *
  rcases hc with ⟨rfl, rfl⟩ | rfl
  · go_enter Tryd.func48, Tryd.ntmps48
    go_wp2_with (go_at_call 69; refine (cN _).mono ?_; rintro e w' ⟨rfl, rfl⟩)
    go_ret
    exact ⟨rfl, rfl⟩
  · go_enter Tryd.func48, Tryd.ntmps48
    go_wp2_with (go_at_call 69; refine (cN _).mono ?_; rintro e w' ⟨rfl, rfl⟩)
    all_goals go_ret
    all_goals exact ⟨ret_int (by omega), rfl⟩
set_option maxHeartbeats 1000000 in
theorem utf_any (s : ByteArray) (w : World) (hs : s.size ≤ 140737488355328) :
    Calls Tryd.prog 89 #[.string s] w fun e w' => e = .returned (.bool (Lib.validD s.data.toList)) ∧ w = w' := by
  have hsz := Lib.size_eq s
  obtain ⟨V, hV⟩ : ∃ V, Lib.validD s.data.toList = V := ⟨_, rfl⟩
  rw [hV]
  have HZ := Lib.hid hsz
  clear hsz
  go_enter Tryd.func89, Tryd.ntmps89
  go_wp2
  go_loopg [3] s.size (fun g v wx => ∃ i : Nat, v = .int .i64 (i : Int) ∧ i + g = s.size ∧ w = wx ∧ Lib.validD (s.data.toList.drop i) = V)
  case atStart => exact ⟨0, rfl, by omega, rfl, by simpa using hV⟩
  case round =>
    obtain ⟨i, rfl, hig, rfl, hv⟩ := hrel
    have HG := Lib.hid hig
    clear hV hig
    by_cases hi : i < s.size
    · have cN := fun w => next_any s i w hi hs
      have hne : s.data.toList.drop i ≠ [] := by
        intro h
        have := congrArg List.length h
        rw [List.length_drop, List.length_nil, ← HZ.out] at this
        omega
      have hst := Fd.valid_step _ hne
      have hc := Fd.nx_cases (s.data.toList.drop i)
      have hle := Fd.wd_le _ hne
      rw [List.length_drop, ← HZ.out] at hle
      rw [hv] at hst
      generalize Fd.wd (s.data.toList.drop i) = k at *
      generalize Fd.nx (s.data.toList.drop i) = m at *
      by_cases hm : m = 0
      · subst hm
        rw [if_pos rfl] at hst
        subst hst
        clear hv hc
        go_wp2_with (go_at_call 69; refine (cN _).mono ?_; rintro e w' ⟨rfl, rfl⟩)
        go_ret
        exact ⟨rfl, rfl⟩
      · rw [if_neg hm, List.drop_drop] at hst
        have HS := Lib.hid hst
        have hm1 : 1 ≤ m := by omega
        have hm2 : i + m ≤ s.size := by omega
        have hm3 : ((m : Int) == 0) = false := by simp; omega
        clear hst hv hc hle hm
        go_wp2_with (go_at_call 69; refine (cN _).mono ?_; rintro e w' ⟨rfl, rfl⟩)
        go_roundg (s.size - (i + m))
        case measure => have := HG.out; omega
        case rel => exact ⟨i + m, by go_num, by omega, rfl, HS.out.symm⟩
    · have : s.data.toList.drop i = [] := List.drop_eq_nil_of_le (by rw [← HZ.out]; omega)
      rw [this] at hv
      subst hv
      obtain rfl : i = s.size := by have := HG.out; omega
      clear this
      go_wp2
      go_ret
      exact ⟨rfl, rfl⟩
end Go.Proofs.YtbfngdpdgmgfpaaDoor
namespace Go.Proofs.YtbfngdpdgmgfpaaDoor
open Go.RowKit

namespace Fd
theorem fine_of (l : List UInt8) (h : l ≠ []) (hc : ct l = false) (hn : ∀ (j : Nat) (b : UInt8), l[j]? = some b → b ≠ 13 ∧ b ≠ 10) : fine l = true := by
  unfold fine
  rw [hc]
  simp only [Bool.and_eq_true, Bool.not_eq_true', List.isEmpty_eq_false_iff, List.all_eq_true, bne_iff_ne, ne_eq, Bool.not_false, and_true]
  refine ⟨h, fun x hx => ?_⟩
  obtain ⟨j, hj, rfl⟩ := List.getElem_of_mem hx
  exact hn j _ (List.getElem?_eq_getElem hj)
theorem fine_nl (l : List UInt8) (j : Nat) (b : UInt8) (h : l[j]? = some b) (hb : b = 13 ∨ b = 10) : fine l = false := by
  unfold fine
  rw [Bool.and_eq_false_iff]
  right
  rw [List.all_eq_false]
  exact ⟨b, List.mem_of_getElem? h, by rcases hb with rfl | rfl <;> simp⟩
theorem fine_ct (l : List UInt8) (h : ct l = true) : fine l = false := by unfold fine; rw [h]; simp
end Fd
theorem extract_mid (s : ByteArray) (a b : Nat) : s.extract a b = ⟨((s.data.toList.take b).drop a).toArray⟩ := str_data (by
  simp only [ByteArray.data_extract, Array.toList_extract, List.extract_eq_take_drop]
  rw [List.take_drop]
  by_cases h : a ≤ b
  · rw [show a + (b - a) = b by omega]
  · rw [List.drop_eq_nil_of_le (by rw [List.length_take]; omega), List.drop_eq_nil_of_le (by rw [List.length_take]; omega)])
namespace Fd
theorem long_more (ls : List (List UInt8)) (j : Nat) (h : long (ls.take j) = true) : long (ls.take (j + 1)) = true := by
  refine long_take (ls.take (j + 1)) j ?_
  rw [List.take_take, Nat.min_eq_left (by omega)]; exact h
theorem long_small {ls : List (List UInt8)} (h : long ls = false) : (all ls).length ≤ 20000 := by
  unfold long at h
  rw [Bool.or_eq_false_iff] at h
  simpa using h.2
end Fd

set_option maxHeartbeats 8000000 in
set_option maxRecDepth 100000 in
theorem reffold_any (A : Option Addr) (n c : Nat) (ls : List (List UInt8)) (w : World) (hS : Strs w w.heap.size A n ls) (hn : n ≤ 40000) (hlen : ∀ l ∈ ls, l.length ≤ 40000) :
    Calls Tryd.prog 29 #[.slice A n c] w fun e w' => e = .returned (.tuple #[.string ⟨(Fd.foldT ls).toArray⟩, .int .i64 (Fd.foldE ls)]) ∧ Gr w w' := by
  have hl : ls.length = n := hS.1
  have HL := Lib.hid hl
  clear hl
  go_enter Tryd.func29, Tryd.ntmps29
  go_wp2
  go_loopg [16] n (fun g v wx => ∃ k : Nat, v = .int .i64 (k : Int) ∧ k + g = n ∧ w = wx ∧ (ls.take k).all Fd.fine = true)
  case atStart => exact ⟨0, rfl, by omega, rfl, by simp⟩
  case round =>
    obtain ⟨k, rfl, hkg, rfl, hf⟩ := hrel
    have HG := Lib.hid (And.intro hkg hf)
    by_cases hk : k < n
    · obtain ⟨ad, hk', rfl, hbl, hcell⟩ := hS.at_ hk
      have hle := hlen _ (List.getElem_mem hk')
      have hz : (ByteArray.mk ls[k].toArray).size = ls[k].length := size_mk _
      have HN := Lib.hid (fun h => (Fd.foldE_bad ls (Fd.not_all_fine ls k hk' h)))
      have HY := Lib.hid (fun h => Fd.all_take_fine ls k hk' HG.out.2 h)
      have ed : (ByteArray.mk ls[k].toArray).data.toList = ls[k] := rfl
      have HX := Lib.hid ed
      rw [← hz] at hle
      have HZ := Lib.hid hz
      clear hkg hf ed hz
      generalize (ByteArray.mk ls[k].toArray) = s at *
      by_cases h0 : s.size = 0
      · have hem : s.toList.isEmpty = true := by rw [Lib.toList_data, isEmpty_size]; simp [h0]
        have hbad : Fd.fine ls[k] = false := by
          have : ls[k] = [] := List.eq_nil_of_length_eq_zero (by rw [← HZ.out]; exact h0)
          rw [this]; rfl
        have HB := Lib.hid (HN.out hbad)
        clear hbad
        go_wp2
        go_ret2
        rw [HB.out.1, HB.out.2]
        exact ⟨rfl, Gr.refl _⟩
      · have hem : s.toList.isEmpty = false := by rw [Lib.toList_data, isEmpty_size]; simp [h0]
        have hp : 0 < s.size := by omega
        have hch := ct_head s hp
        rw [HX.out] at hch
        cases h1 : ((s[0].toNat : Int) == 32)
        · cases h2 : ((s[0].toNat : Int) == 9)
          · rw [h1, h2] at hch
            have HC := Lib.hid hch
            clear hch
            go_wp2
            go_loopg [37] s.size (fun g v wx => ∃ j : Nat, v = .int .i64 (j : Int) ∧ j + g = s.size ∧ w = wx ∧ ∀ (i : Nat) (b : UInt8), i < j → s.data.toList[i]? = some b → b ≠ 13 ∧ b ≠ 10)
            case atStart => exact ⟨0, rfl, by omega, rfl, fun i b h => by omega⟩
            case round =>
              obtain ⟨j, rfl, hjg, rfl, hno⟩ := hrel
              have HJ := Lib.hid hjg
              have HO := Lib.hid hno
              clear hjg hno
              by_cases hj : j < s.size
              · have hat := at_toNat s j hj
                have HA := Lib.hid hat
                clear hat
                cases h3 : ((s[j].toNat : Int) == 13)
                · cases h4 : ((s[j].toNat : Int) == 10)
                  · go_wp2
                    go_roundg (s.size - (j + 1))
                    case measure => have := HJ.out; omega
                    case rel =>
                      refine ⟨j + 1, by go_num, by omega, rfl, fun i b hi hb => ?_⟩
                      rcases Nat.lt_or_ge i j with h5 | h5
                      · exact HO.out i b h5 hb
                      · have : i = j := by omega
                        subst this
                        rw [HA.out] at hb
                        obtain rfl := Option.some.inj hb
                        constructor
                        · intro e; rw [e] at h3; cases h3
                        · intro e; rw [e] at h4; cases h4
                  · have hbad : Fd.fine ls[k] = false := Fd.fine_nl _ j s[j] (by rw [← HX.out]; exact HA.out) (.inr ((byte_eq (n := 10) (by omega)).1 h4))
                    have HB := Lib.hid (HN.out hbad)
                    clear hbad
                    go_wp2
                    go_ret2
                    rw [HB.out.1, HB.out.2]
                    exact ⟨rfl, Gr.refl _⟩
                · have hbad : Fd.fine ls[k] = false := Fd.fine_nl _ j s[j] (by rw [← HX.out]; exact HA.out) (.inl ((byte_eq (n := 13) (by omega)).1 h3))
                  have HB := Lib.hid (HN.out hbad)
                  clear hbad
                  go_wp2
                  go_ret2
                  rw [HB.out.1, HB.out.2]
                  exact ⟨rfl, Gr.refl _⟩
              · obtain rfl : j = s.size := by have := HJ.out; omega
                have hgood : Fd.fine ls[k] = true := Fd.fine_of _ (by
                  intro e; have := HZ.out; rw [e, List.length_nil] at this; omega) HC.out (fun i b hb => by
                    rw [← HX.out] at hb
                    have : i < s.data.toList.length := (List.getElem?_eq_some_iff.1 hb).1
                    exact HO.out i b (by rw [Lib.size_eq]; exact this) hb)
                have HB := Lib.hid (HY.out hgood)
                clear hgood
                go_wp2
                go_roundg (n - (k + 1))
                case measure => have := HG.out.1; omega
                case rel => exact ⟨k + 1, by go_num, by omega, rfl, HB.out⟩
          · rw [h1, h2] at hch
            have HB := Lib.hid (HN.out (Fd.fine_ct _ hch))
            clear hch
            go_wp2
            go_ret2
            rw [HB.out.1, HB.out.2]
            exact ⟨rfl, Gr.refl _⟩
        · rw [h1] at hch
          have HB := Lib.hid (HN.out (Fd.fine_ct _ hch))
          clear hch
          go_wp2
          go_ret2
          rw [HB.out.1, HB.out.2]
          exact ⟨rfl, Gr.refl _⟩
    · have e1 : ls.take k = ls := List.take_of_length_le (by rw [HL.out]; omega)
      rw [e1] at hf
      have HA := Lib.hid hf
      obtain rfl : k = n := by omega
      clear hf e1 hkg HG
      go_wp2
      go_loopg [7, 8, 54] k (fun g v7 v8 v wx => ∃ A2 n2 c2 acc, ∃ lg : Bool, ∃ j : Nat, v7 = .slice A2 n2 c2 ∧ v8 = .bool lg ∧ v = .int .i64 (j : Int) ∧ j + g = k ∧ Below w.heap.size w wx ∧ w.heap.size ≤ wx.heap.size ∧ OwnV wx w.heap.size 5 A2 n2 c2 (bc acc) ∧ n2 ≤ 28010 + 2 * j ∧ Hid (Fd.long (ls.take j) = lg ∧ (lg = false → acc = Fd.all (ls.take j))))
      case atStart => exact ⟨_, _, _, [], false, 0, rfl, rfl, rfl, by omega, Below.refl _ _, Nat.le_refl _, OwnV.nil _ _ _, by omega, Lib.hid ⟨by simp [Fd.long, Fd.all], fun _ => by simp [Fd.all]⟩⟩
      case round =>
        obtain ⟨A2, n2, c2, acc, lg, j, rfl, rfl, rfl, hjg, hb2, hsz2, hown2, hn2, HLo⟩ := hrel
        have HJ := Lib.hid hjg
        clear hjg
        by_cases hj : j < k
        · obtain ⟨ad, hj', rfl, hbl, hcell⟩ := (hS.keep hb2).at_ hj
          have hle := hlen _ (List.getElem_mem hj')
          have HLS := Lib.hid (fun h => Fd.long_succ ls j hj' h)
          have HAS := Lib.hid (Fd.all_take_succ ls j hj')
          have hz : (ByteArray.mk ls[j].toArray).size = ls[j].length := size_mk _
          have ed : (ByteArray.mk ls[j].toArray).data.toList = ls[j] := rfl
          have HX := Lib.hid ed
          have HZ := Lib.hid hz
          rw [← hz] at hle
          clear hz ed
          generalize (ByteArray.mk ls[j].toArray) = s at *
          cases lg
          · by_cases h2000 : 2000 < s.size
            · have hdt : decide ((2000 : Int) < (s.size : Int)) = true := by simp; omega
              go_wp2
              refine wp_loop_rounds 1 ?_
              rw [rounds_succ]
              go_wp2_with (at_builtin; refine ap_lit wr rfl (.tmp 99) (.tmp 100) 85 5 (.int .u8 0) 1 Tryd.underlying85 info_u8 rfl (by omega) rfl w.heap.size A2 n2 c2 (bc acc) [.int .u8 13, .int .u8 10] rfl hown2 2 2 rfl rfl (by decide) (by omega) hsz2 ?_; intro A3 c3 w3 hown3 hb3)
              go_roundg (k - (j + 1))
              case measure => have := HJ.out; omega
              case rel =>
                refine ⟨_, _, _, acc ++ [13, 10], true, j + 1, rfl, rfl, by go_num, by omega, hb2.trans hb3, by have := hb3.size; omega, by rw [bc_append]; exact hown3, by omega, Lib.hid ⟨?_, fun h => by cases h⟩⟩
                rw [HLS.out HLo.out.1, ← HZ.out]
                simp [h2000]
            · have hdf : decide ((2000 : Int) < (s.size : Int)) = false := by simp; omega
              have hacc : acc = Fd.all (ls.take j) := HLo.out.2 rfl
              have hac2 : acc.length = n2 := by simpa [bc] using hown2.len
              have hac3 : n2 ≤ 20000 := by rw [← hac2, hacc]; exact Fd.long_small HLo.out.1
              have HAC := Lib.hid hacc
              have hll := Fd.line_len s.data.toList
              rw [← Lib.size_eq] at hll
              have HLL := Lib.hid (And.intro hll hac2)
              clear hacc hac2 hll
              go_wp2
              go_loopg [7, 11, 12] s.size (fun g v7 v11 v12 wx => ∃ A4 n4 c4 X, ∃ wi i : Nat, v7 = .slice A4 n4 c4 ∧ v11 = .int .i64 (wi : Int) ∧ v12 = .int .i64 (i : Int) ∧ i + g = s.size ∧ wi ≤ 75 ∧ Below w.heap.size w wx ∧ w.heap.size ≤ wx.heap.size ∧ OwnV wx w.heap.size 5 A4 n4 c4 (bc (acc ++ X)) ∧ Hid (X ++ Fd.rf wi (s.data.toList.drop i) = Fd.rf 0 s.data.toList))
              case atStart => exact ⟨_, _, _, [], 0, 0, rfl, rfl, rfl, by omega, by omega, hb2, hsz2, by rw [List.append_nil]; exact hown2, Lib.hid (by simp)⟩
              case round =>
                obtain ⟨A4, n4, c4, X, wi, i, rfl, rfl, rfl, hig, hwi, hb4, hsz4, hown4, HR⟩ := hrel
                have HI := Lib.hid hig
                have hx4 : (acc ++ X).length = n4 := by simpa [bc] using hown4.len
                have hn4 : n4 ≤ 28002 := by
                  have h1 := congrArg List.length HR.out
                  have h2 := HLL.out
                  unfold Fd.line at h2
                  simp only [List.length_append, List.length_cons, List.length_nil] at h1 h2 hx4
                  omega
                have HX4 := Lib.hid hx4
                clear hig hx4
                by_cases hi : i < s.size
                · have cS := fun w => size_any s i w hi (by omega)
                  have hne : s.data.toList.drop i ≠ [] := by
                    intro h
                    have := congrArg List.length h
                    rw [List.length_drop, List.length_nil, ← Lib.size_eq] at this
                    omega
                  have hp := Fd.wd_pos (s.data.toList.drop i)
                  have h4 := Fd.wd_le4 (s.data.toList.drop i)
                  have hwl := Fd.wd_le _ hne
                  rw [List.length_drop, ← Lib.size_eq] at hwl
                  have hr1 := fun h => Fd.rf_new wi (s.data.toList.drop i) hne h
                  have hr2 := fun h => Fd.rf_same wi (s.data.toList.drop i) hne h
                  rw [List.drop_drop] at hr1 hr2
                  obtain ⟨m, hm⟩ : ∃ m, Fd.wd (s.data.toList.drop i) = m := ⟨_, rfl⟩
                  rw [hm] at cS hp h4 hwl hr1 hr2
                  obtain ⟨u, hu⟩ : ∃ u, s.extract i (i + m) = u := ⟨_, rfl⟩
                  have hud : u.data.toList = (s.data.toList.drop i).take m := by rw [← hu, extract_mid, ← List.take_drop]
                  have hus : u.size = m := by rw [Lib.size_eq, hud, List.length_take, List.length_drop, ← Lib.size_eq]; omega
                  rw [← hud] at hr1 hr2
                  have HRR := Lib.hid (And.intro hr1 hr2)
                  clear hr1 hr2 hud hm hne
                  by_cases hw : 75 < wi + m
                  · go_wp2_with (first
                      | (go_at_call 48; refine (cS _).mono ?_; rintro e w' ⟨rfl, rfl⟩)
                      | (at_builtin; refine ap_lit wr rfl (.tmp 82) (.tmp 83) 85 5 (.int .u8 0) 1 Tryd.underlying85 info_u8 rfl (by omega) rfl w.heap.size A4 n4 c4 (bc (acc ++ X)) [.int .u8 13, .int .u8 10, .int .u8 32] rfl hown4 3 3 rfl rfl (by decide) (by omega) hsz4 ?_; intro A5 c5 w5 hown5 hb5)
                      | (at_builtin; refine ap_text w5 rfl (.tmp 85) (.tmp 91) rfl w.heap.size A5 (n4 + 3) c5 (acc ++ X ++ [13, 10, 32]) rfl (by rw [bc_append]; exact hown5) u (by show Value.string (s.extract i (i + m)) = _; rw [hu]) (by omega) (by have := hb5.size; omega) ?_; intro A6 c6 w6 hown6 hb6))
                    go_roundg (s.size - (i + m))
                    case measure => have := HI.out; omega
                    case rel =>
                      refine ⟨A6, _, c6, X ++ [13, 10, 32] ++ u.data.toList, 1 + m, i + m, rfl, by go_num, by go_num, by omega, by omega, (hb4.trans hb5).trans hb6, by have := hb5.size; have := hb6.size; omega, ?_, Lib.hid ?_⟩
                      · rw [hus] at hown6
                        have e : acc ++ (X ++ [13, 10, 32] ++ u.data.toList) = acc ++ X ++ [13, 10, 32] ++ u.data.toList := by simp
                        rw [e]; exact hown6
                      · rw [← HR.out, HRR.out.1 hw]; simp
                  · go_wp2_with (first
                      | (go_at_call 48; refine (cS _).mono ?_; rintro e w' ⟨rfl, rfl⟩)
                      | (at_builtin; refine ap_text wr rfl (.tmp 85) (.tmp 91) rfl w.heap.size A4 n4 c4 (acc ++ X) rfl hown4 u (by show Value.string (s.extract i (i + m)) = _; rw [hu]) (by omega) hsz4 ?_; intro A6 c6 w6 hown6 hb6))
                    go_roundg (s.size - (i + m))
                    case measure => have := HI.out; omega
                    case rel =>
                      refine ⟨A6, _, c6, X ++ u.data.toList, wi + m, i + m, rfl, by go_num, by go_num, by omega, by omega, hb4.trans hb6, by have := hb6.size; omega, ?_, Lib.hid ?_⟩
                      · rw [hus] at hown6
                        have e : acc ++ (X ++ u.data.toList) = acc ++ X ++ u.data.toList := by simp
                        rw [e]; exact hown6
                      · rw [← HR.out, HRR.out.2 (by omega)]; simp
                · obtain rfl : i = s.size := by have := HI.out; omega
                  have hXe : X = Fd.rf 0 s.data.toList := by
                    have := HR.out
                    rw [List.drop_eq_nil_of_le (by rw [← Lib.size_eq]; exact Nat.le_refl _), Fd.rf_nil, List.append_nil] at this
                    exact this
                  have hnew : acc ++ X ++ [13, 10] = Fd.all (ls.take (j + 1)) := by
                    rw [hXe, HAC.out, HAS.out, HX.out]; simp [Fd.line]
                  have HNW := Lib.hid hnew
                  clear hXe hnew
                  by_cases h20 : 20000 < n4 + 2
                  · have hd20 : decide ((20000 : Int) < (n4 : Int) + 2) = true := by simp; omega
                    go_wp2_with (at_builtin; refine ap_lit wr rfl (.tmp 99) (.tmp 100) 85 5 (.int .u8 0) 1 Tryd.underlying85 info_u8 rfl (by omega) rfl w.heap.size A4 n4 c4 (bc (acc ++ X)) [.int .u8 13, .int .u8 10] rfl hown4 2 2 rfl rfl (by decide) (by omega) hsz4 ?_; intro A3 c3 w3 hown3 hb3)
                    go_roundg (k - (j + 1))
                    case measure => have := HJ.out; omega
                    case rel =>
                      refine ⟨_, _, _, acc ++ X ++ [13, 10], true, j + 1, rfl, rfl, by go_num, by omega, hb4.trans hb3, by have := hb3.size; omega, by rw [bc_append]; exact hown3, by omega, Lib.hid ⟨?_, fun h => by cases h⟩⟩
                      rw [HLS.out HLo.out.1, ← HNW.out, List.length_append, HX4.out]
                      simp [h20]
                  · have hd20 : decide ((20000 : Int) < (n4 : Int) + 2) = false := by simp; omega
                    go_wp2_with (at_builtin; refine ap_lit wr rfl (.tmp 99) (.tmp 100) 85 5 (.int .u8 0) 1 Tryd.underlying85 info_u8 rfl (by omega) rfl w.heap.size A4 n4 c4 (bc (acc ++ X)) [.int .u8 13, .int .u8 10] rfl hown4 2 2 rfl rfl (by decide) (by omega) hsz4 ?_; intro A3 c3 w3 hown3 hb3)
                    go_roundg (k - (j + 1))
                    case measure => have := HJ.out; omega
                    case rel =>
                      refine ⟨_, _, _, acc ++ X ++ [13, 10], false, j + 1, rfl, rfl, by go_num, by omega, hb4.trans hb3, by have := hb3.size; omega, by rw [bc_append]; exact hown3, by omega, Lib.hid ⟨?_, fun _ => HNW.out⟩⟩
                      rw [HLS.out HLo.out.1, ← HNW.out, List.length_append, HX4.out, ← HZ.out]
                      simp
                      omega
          · go_wp2
            refine wp_loop_rounds 1 ?_
            rw [rounds_succ]
            go_wp2_with (at_builtin; refine ap_lit wr rfl (.tmp 99) (.tmp 100) 85 5 (.int .u8 0) 1 Tryd.underlying85 info_u8 rfl (by omega) rfl w.heap.size A2 n2 c2 (bc acc) [.int .u8 13, .int .u8 10] rfl hown2 2 2 rfl rfl (by decide) (by omega) hsz2 ?_; intro A3 c3 w3 hown3 hb3)
            all_goals go_roundg (k - (j + 1))
            all_goals try (case measure => have := HJ.out; omega)
            all_goals
              refine ⟨_, _, _, acc ++ [13, 10], true, j + 1, rfl, rfl, by go_num, by omega, hb2.trans hb3, by have := hb3.size; omega, by rw [bc_append]; exact hown3, by omega, Lib.hid ⟨?_, fun h => by cases h⟩⟩
              exact Fd.long_more ls j HLo.out.1
        · obtain rfl : j = k := by have := HJ.out; omega
          have e1 : ls.take j = ls := List.take_of_length_le (by rw [HL.out]; omega)
          rw [e1] at HLo
          cases lg
          · have hcv := conv_back hown2
            rw [HLo.out.2 rfl] at hcv
            obtain ⟨f1, f2⟩ := Fd.foldE_ok ls HA.out HLo.out.1
            have HF := Lib.hid (And.intro f1 f2)
            clear e1 f1 f2
            go_wp2
            go_ret2
            rw [HF.out.1, HF.out.2]
            exact ⟨rfl, ⟨hb2⟩⟩
          · obtain ⟨f1, f2⟩ := Fd.foldE_long ls HA.out HLo.out.1
            have HF := Lib.hid (And.intro f1 f2)
            clear e1 f1 f2
            go_wp2
            go_ret2
            rw [HF.out.1, HF.out.2]
            exact ⟨rfl, ⟨hb2⟩⟩
end Go.Proofs.YtbfngdpdgmgfpaaDoor
namespace Go.Proofs.YtbfngdpdgmgfpaaDoor
open Go.RowKit

namespace Es
theorem bad_cases (f : Bool) (b : UInt8) (h127 : b ≠ 127) (h32 : b.toNat < 32) (h9 : b ≠ 9) : bad f b = !(f && b == 10) := by
  unfold bad
  have h3 : (b == 127) = false := by simpa using h127
  have h4 : decide (b.toNat < 32) = true := decide_eq_true h32
  have h5 : (b != 9) = true := by simpa using h9
  rw [h3, h4, h5]; simp
theorem bad_tab (f : Bool) : bad f 9 = false := by cases f <;> rfl
end Es
set_option maxHeartbeats 2000000 in
set_option maxRecDepth 100000 in
theorem clean_any (f : Bool) (s : ByteArray) (w : World) (hs : s.size ≤ 140737488355328) :
    Calls Tryd.prog 75 #[.string s, .bool f] w fun e w' => e = .returned (.int .i64 (Es.clE f s.data.toList)) ∧ w = w' := by
  have cV := utf_any s w hs
  obtain ⟨V, hV⟩ : ∃ V, Lib.validD s.data.toList = V := ⟨_, rfl⟩
  rw [hV] at cV
  cases V
  · rw [Es.clE_utf hV]
    clear hV
    go_enter Tryd.func75, Tryd.ntmps75
    go_wp2_with (go_at_call 89; refine cV.mono ?_; rintro e w1 ⟨rfl, rfl⟩)
    go_ret
    exact ⟨rfl, rfl⟩
  · have HB := Lib.hid (fun h => Es.clE_val (f := f) hV h)
    have HO := Lib.hid (fun h => Es.clE_ok (f := f) hV h)
    clear hV
    generalize Es.clE f s.data.toList = E at *
    go_enter Tryd.func75, Tryd.ntmps75
    go_wp2_with (go_at_call 89; refine cV.mono ?_; rintro e w1 ⟨rfl, rfl⟩)
    go_loopg [12] s.size (fun g v wx => ∃ i : Nat, v = .int .i64 (i : Int) ∧ i + g = s.size ∧ w = wx ∧ (s.data.toList.take i).any (Es.bad f) = false)
    case atStart => exact ⟨0, rfl, by omega, rfl, by simp⟩
    case round =>
      obtain ⟨i, rfl, hig, rfl, hno⟩ := hrel
      have HG := Lib.hid hig
      have HN := Lib.hid hno
      clear hig hno
      by_cases hi : i < s.size
      · have hlt : (s[i].toNat : Int) < 256 := by have := UInt8.toNat_lt s[i]; omega
        cases h127 : ((s[i].toNat : Int) == 127)
        · by_cases h32 : (s[i].toNat : Int) < 32
          · cases h9 : ((s[i].toNat : Int) == 9)
            · have h9n : ((s[i].toNat : Int) != 9) = true := by rw [bne, h9]; rfl
              have hbc := Es.bad_cases f s[i] (by_f 127 h127) (by omega) (by_f 9 h9)
              cases f
              · have HE := Lib.hid (HB.out (Es.any_at hi hbc))
                clear hbc
                go_wp2
                go_ret
                rw [HE.out]
                exact ⟨rfl, rfl⟩
              · cases h10 : ((s[i].toNat : Int) == 10)
                · have hb2 : (s[i] == 10) = false := by simpa using by_f 10 h10
                  rw [hb2] at hbc
                  have HE := Lib.hid (HB.out (Es.any_at hi hbc))
                  clear hbc hb2
                  go_wp2
                  go_ret
                  rw [HE.out]
                  exact ⟨rfl, rfl⟩
                · have hb2 : (s[i] == 10) = true := by simpa using by_t 10 h10
                  rw [hb2] at hbc
                  have HE := Lib.hid (Es.any_more hi HN.out hbc)
                  clear hbc hb2
                  go_wp2
                  go_roundg (s.size - (i + 1))
                  case measure => have := HG.out; omega
                  case rel => exact ⟨i + 1, by go_num, by omega, rfl, HE.out⟩
            · have h9n : ((s[i].toNat : Int) != 9) = false := by rw [bne, h9]; rfl
              have hb : Es.bad f s[i] = false := by rw [by_t 9 h9]; exact Es.bad_tab f
              have HE := Lib.hid (Es.any_more hi HN.out hb)
              clear hb
              go_wp2
              go_roundg (s.size - (i + 1))
              case measure => have := HG.out; omega
              case rel => exact ⟨i + 1, by go_num, by omega, rfl, HE.out⟩
          · have hb : Es.bad f s[i] = false := Es.bad_high f _ (by_f 127 h127) (by omega)
            have HE := Lib.hid (Es.any_more hi HN.out hb)
            clear hb
            go_wp2
            go_roundg (s.size - (i + 1))
            case measure => have := HG.out; omega
            case rel => exact ⟨i + 1, by go_num, by omega, rfl, HE.out⟩
        · have hb : Es.bad f s[i] = true := by rw [by_t 127 h127]; exact Es.bad_del f
          have HE := Lib.hid (HB.out (Es.any_at hi hb))
          clear hb
          go_wp2
          go_ret
          rw [HE.out]
          exact ⟨rfl, rfl⟩
      · have he := HN.out
        rw [take_end s i (by omega)] at he
        have HE := Lib.hid (HO.out he)
        obtain rfl : i = s.size := by have := HG.out; omega
        clear he
        go_wp2
        go_ret
        rw [HE.out]
        exact ⟨rfl, rfl⟩
theorem qu_step (s : ByteArray) (j : Nat) (h : j < s.size) : Es.qu (s.data.toList.take (j + 1)) = (Es.qu (s.data.toList.take j) || Es.qs s[j]) := by
  have h2 : j < s.data.toList.length := by rw [← Lib.size_eq]; exact h
  exact Es.qu_snoc _ j h2
namespace Es
theorem qs_no {b : UInt8} (h1 : b ≠ 58) (h2 : b ≠ 59) (h3 : b ≠ 44) : qs b = false := by simp [qs, h1, h2, h3]
theorem or_true_ (q b : Bool) (h : b = true) : (q || b) = true := by rw [h]; simp
theorem or_false_ (q b : Bool) (h : b = false) : (q || b) = q := by rw [h]; simp
end Es
set_option maxHeartbeats 8000000 in
set_option maxRecDepth 100000 in
theorem refparam_any (s : ByteArray) (w : World) (hs : s.size ≤ 400000) :
    Calls Tryd.prog 68 #[.string s] w fun e w' => e = .returned (.tuple #[.string ⟨(Es.pqT s.data.toList).toArray⟩, .int .i64 (Es.clE true s.data.toList)]) ∧ Gr w w' := by
  have cC := clean_any true s w (by omega)
  by_cases hE : Es.clE true s.data.toList = 0
  · rw [Es.pqT_ok hE]
    rw [hE] at cC ⊢
    obtain ⟨P, hP⟩ : ∃ P, Es.pq s.data.toList = P := ⟨_, rfl⟩
    rw [hP]
    have HP := Lib.hid hP
    clear hP hE
    go_enter Tryd.func68, Tryd.ntmps68
    go_wp2_with (go_at_call 75; refine cC.mono ?_; rintro e w1 ⟨rfl, rfl⟩)
    go_loopg [5, 6, 15] s.size (fun g v5 v6 v wx => ∃ A2 n2 c2, ∃ q : Bool, ∃ j : Nat, v5 = .slice A2 n2 c2 ∧ v6 = .bool q ∧ v = .int .i64 (j : Int) ∧ j + g = s.size ∧ Below w.heap.size w wx ∧ w.heap.size ≤ wx.heap.size ∧ n2 ≤ 2 * j ∧ OwnV wx w.heap.size 5 A2 n2 c2 (bc (Es.pm (s.data.toList.take j))) ∧ Hid (Es.qu (s.data.toList.take j) = q))
    case atStart => exact ⟨_, _, _, false, 0, rfl, rfl, rfl, by omega, Below.refl _ _, Nat.le_refl _, by omega, OwnV.nil _ _ _, Lib.hid rfl⟩
    case round =>
      obtain ⟨A2, n2, c2, q, j, rfl, rfl, rfl, hjg, hb2, hsz2, hn2, hown2, HQ⟩ := hrel
      have HJ := Lib.hid hjg
      clear hjg
      by_cases hj : j < s.size
      · have HS := Lib.hid (pm_step s j hj)
        have HU := Lib.hid (qu_step s j hj)
        cases h94 : ((s[j].toNat : Int) == 94)
        · cases h10 : ((s[j].toNat : Int) == 10)
          · cases h34 : ((s[j].toNat : Int) == 34)
            · cases h58 : ((s[j].toNat : Int) == 58)
              · cases h59 : ((s[j].toNat : Int) == 59)
                · cases h44 : ((s[j].toNat : Int) == 44)
                  · have HV : Hid ((q || Es.qs s[j]) = q) := Lib.hid (Es.or_false_ _ _ (Es.qs_no (by_f 58 h58) (by_f 59 h59) (by_f 44 h44)))
                    cases q
                    · have HT1 := Lib.hid (Es.p1_else (by_f 10 h10) (by_f 34 h34) (by_f 94 h94))
                      go_wp2_with (at_builtin; refine ap_bytes wr rfl (.tmp 40) (.tmp 44) rfl w.heap.size A2 n2 c2 _ [s[j]] rfl hown2 1 1 rfl rfl (by omega) hsz2 ?_; intro A3 c3 w3 hown3 hb3)
                      go_roundg (s.size - (j + 1))
                      case measure => have := HJ.out; omega
                      case rel => exact ⟨_, _, _, false, j + 1, rfl, rfl, by go_num, by omega, hb2.trans hb3, by have := hb3.size; omega, by omega, by rw [HS.out, HT1.out]; exact hown3, Lib.hid (by rw [HU.out, HQ.out]; exact HV.out)⟩
                    · have HT1 := Lib.hid (Es.p1_else (by_f 10 h10) (by_f 34 h34) (by_f 94 h94))
                      go_wp2_with (at_builtin; refine ap_bytes wr rfl (.tmp 40) (.tmp 44) rfl w.heap.size A2 n2 c2 _ [s[j]] rfl hown2 1 1 rfl rfl (by omega) hsz2 ?_; intro A3 c3 w3 hown3 hb3)
                      go_roundg (s.size - (j + 1))
                      case measure => have := HJ.out; omega
                      case rel => exact ⟨_, _, _, true, j + 1, rfl, rfl, by go_num, by omega, hb2.trans hb3, by have := hb3.size; omega, by omega, by rw [HS.out, HT1.out]; exact hown3, Lib.hid (by rw [HU.out, HQ.out]; exact HV.out)⟩
                  · have HV : Hid ((q || Es.qs s[j]) = true) := Lib.hid (Es.or_true_ _ _ (by rw [by_t 44 h44]; rfl))
                    cases q
                    · have HT1 := Lib.hid (Es.p1_else (by_f 10 h10) (by_f 34 h34) (by_f 94 h94))
                      go_wp2_with (at_builtin; refine ap_bytes wr rfl (.tmp 40) (.tmp 44) rfl w.heap.size A2 n2 c2 _ [s[j]] rfl hown2 1 1 rfl rfl (by omega) hsz2 ?_; intro A3 c3 w3 hown3 hb3)
                      go_roundg (s.size - (j + 1))
                      case measure => have := HJ.out; omega
                      case rel => exact ⟨_, _, _, true, j + 1, rfl, rfl, by go_num, by omega, hb2.trans hb3, by have := hb3.size; omega, by omega, by rw [HS.out, HT1.out]; exact hown3, Lib.hid (by rw [HU.out, HQ.out]; exact HV.out)⟩
                    · have HT1 := Lib.hid (Es.p1_else (by_f 10 h10) (by_f 34 h34) (by_f 94 h94))
                      go_wp2_with (at_builtin; refine ap_bytes wr rfl (.tmp 40) (.tmp 44) rfl w.heap.size A2 n2 c2 _ [s[j]] rfl hown2 1 1 rfl rfl (by omega) hsz2 ?_; intro A3 c3 w3 hown3 hb3)
                      go_roundg (s.size - (j + 1))
                      case measure => have := HJ.out; omega
                      case rel => exact ⟨_, _, _, true, j + 1, rfl, rfl, by go_num, by omega, hb2.trans hb3, by have := hb3.size; omega, by omega, by rw [HS.out, HT1.out]; exact hown3, Lib.hid (by rw [HU.out, HQ.out]; exact HV.out)⟩
                · have HV : Hid ((q || Es.qs s[j]) = true) := Lib.hid (Es.or_true_ _ _ (by rw [by_t 59 h59]; rfl))
                  cases q
                  · have HT1 := Lib.hid (Es.p1_else (by_f 10 h10) (by_f 34 h34) (by_f 94 h94))
                    go_wp2_with (at_builtin; refine ap_bytes wr rfl (.tmp 40) (.tmp 44) rfl w.heap.size A2 n2 c2 _ [s[j]] rfl hown2 1 1 rfl rfl (by omega) hsz2 ?_; intro A3 c3 w3 hown3 hb3)
                    go_roundg (s.size - (j + 1))
                    case measure => have := HJ.out; omega
                    case rel => exact ⟨_, _, _, true, j + 1, rfl, rfl, by go_num, by omega, hb2.trans hb3, by have := hb3.size; omega, by omega, by rw [HS.out, HT1.out]; exact hown3, Lib.hid (by rw [HU.out, HQ.out]; exact HV.out)⟩
                  · have HT1 := Lib.hid (Es.p1_else (by_f 10 h10) (by_f 34 h34) (by_f 94 h94))
                    go_wp2_with (at_builtin; refine ap_bytes wr rfl (.tmp 40) (.tmp 44) rfl w.heap.size A2 n2 c2 _ [s[j]] rfl hown2 1 1 rfl rfl (by omega) hsz2 ?_; intro A3 c3 w3 hown3 hb3)
                    go_roundg (s.size - (j + 1))
                    case measure => have := HJ.out; omega
                    case rel => exact ⟨_, _, _, true, j + 1, rfl, rfl, by go_num, by omega, hb2.trans hb3, by have := hb3.size; omega, by omega, by rw [HS.out, HT1.out]; exact hown3, Lib.hid (by rw [HU.out, HQ.out]; exact HV.out)⟩
              · have HV : Hid ((q || Es.qs s[j]) = true) := Lib.hid (Es.or_true_ _ _ (by rw [by_t 58 h58]; rfl))
                cases q
                · have HT1 := Lib.hid (Es.p1_else (by_f 10 h10) (by_f 34 h34) (by_f 94 h94))
                  go_wp2_with (at_builtin; refine ap_bytes wr rfl (.tmp 40) (.tmp 44) rfl w.heap.size A2 n2 c2 _ [s[j]] rfl hown2 1 1 rfl rfl (by omega) hsz2 ?_; intro A3 c3 w3 hown3 hb3)
                  go_roundg (s.size - (j + 1))
                  case measure => have := HJ.out; omega
                  case rel => exact ⟨_, _, _, true, j + 1, rfl, rfl, by go_num, by omega, hb2.trans hb3, by have := hb3.size; omega, by omega, by rw [HS.out, HT1.out]; exact hown3, Lib.hid (by rw [HU.out, HQ.out]; exact HV.out)⟩
                · have HT1 := Lib.hid (Es.p1_else (by_f 10 h10) (by_f 34 h34) (by_f 94 h94))
                  go_wp2_with (at_builtin; refine ap_bytes wr rfl (.tmp 40) (.tmp 44) rfl w.heap.size A2 n2 c2 _ [s[j]] rfl hown2 1 1 rfl rfl (by omega) hsz2 ?_; intro A3 c3 w3 hown3 hb3)
                  go_roundg (s.size - (j + 1))
                  case measure => have := HJ.out; omega
                  case rel => exact ⟨_, _, _, true, j + 1, rfl, rfl, by go_num, by omega, hb2.trans hb3, by have := hb3.size; omega, by omega, by rw [HS.out, HT1.out]; exact hown3, Lib.hid (by rw [HU.out, HQ.out]; exact HV.out)⟩
            · have HT1 := Lib.hid (show Es.p1 s[j] = [94, 39] by rw [by_t 34 h34]; rfl)
              have HV : Hid ((q || Es.qs s[j]) = q) := Lib.hid (Es.or_false_ _ _ (by rw [by_t 34 h34]; rfl))
              go_wp2_with (at_builtin; refine ap_bytes wr rfl (.tmp 58) (.tmp 59) rfl w.heap.size A2 n2 c2 _ [94, 39] rfl hown2 2 2 rfl rfl (by omega) hsz2 ?_; intro A3 c3 w3 hown3 hb3)
              go_roundg (s.size - (j + 1))
              case measure => have := HJ.out; omega
              case rel => exact ⟨_, _, _, q, j + 1, rfl, rfl, by go_num, by omega, hb2.trans hb3, by have := hb3.size; omega, by omega, by rw [HS.out, HT1.out]; exact hown3, Lib.hid (by rw [HU.out, HQ.out]; exact HV.out)⟩
          · have HT1 := Lib.hid (show Es.p1 s[j] = [94, 110] by rw [by_t 10 h10]; rfl)
            have HV : Hid ((q || Es.qs s[j]) = q) := Lib.hid (Es.or_false_ _ _ (by rw [by_t 10 h10]; rfl))
            go_wp2_with (at_builtin; refine ap_bytes wr rfl (.tmp 53) (.tmp 54) rfl w.heap.size A2 n2 c2 _ [94, 110] rfl hown2 2 2 rfl rfl (by omega) hsz2 ?_; intro A3 c3 w3 hown3 hb3)
            go_roundg (s.size - (j + 1))
            case measure => have := HJ.out; omega
            case rel => exact ⟨_, _, _, q, j + 1, rfl, rfl, by go_num, by omega, hb2.trans hb3, by have := hb3.size; omega, by omega, by rw [HS.out, HT1.out]; exact hown3, Lib.hid (by rw [HU.out, HQ.out]; exact HV.out)⟩
        · have HT1 := Lib.hid (show Es.p1 s[j] = [94, 94] by rw [by_t 94 h94]; rfl)
          have HV : Hid ((q || Es.qs s[j]) = q) := Lib.hid (Es.or_false_ _ _ (by rw [by_t 94 h94]; rfl))
          go_wp2_with (at_builtin; refine ap_bytes wr rfl (.tmp 48) (.tmp 49) rfl w.heap.size A2 n2 c2 _ [94, 94] rfl hown2 2 2 rfl rfl (by omega) hsz2 ?_; intro A3 c3 w3 hown3 hb3)
          go_roundg (s.size - (j + 1))
          case measure => have := HJ.out; omega
          case rel => exact ⟨_, _, _, q, j + 1, rfl, rfl, by go_num, by omega, hb2.trans hb3, by have := hb3.size; omega, by omega, by rw [HS.out, HT1.out]; exact hown3, Lib.hid (by rw [HU.out, HQ.out]; exact HV.out)⟩
      · obtain rfl : j = s.size := by have := HJ.out; omega
        rw [take_end s s.size (Nat.le_refl _)] at hown2 HQ
        have hcv := conv_back hown2
        have hq := HP.out
        cases q
        · rw [Es.pq_out HQ.out] at hq
          rw [hq] at hcv
          clear hq
          go_wp2
          go_ret2
          exact ⟨rfl, ⟨hb2⟩⟩
        · rw [Es.pq_in HQ.out] at hq
          have HR : Hid ((⟨P.toArray⟩ : ByteArray) = ⟨(34 :: (Es.pm s.data.toList ++ [34])).toArray⟩) := Lib.hid (by rw [hq])
          rw [quote_cat] at HR
          clear hq
          have hpz : (ByteArray.mk (Es.pm s.data.toList).toArray).size ≤ 800000 := by rw [size_mk]; have := Es.pm_len s.data.toList; rw [← Lib.size_eq] at this; omega
          generalize (ByteArray.mk (Es.pm s.data.toList).toArray) = pb at *
          have hpz1 : ((⟨#[34]⟩ : ByteArray) ++ pb).size ≤ 800001 := by rw [ByteArray.size_append]; show 1 + _ ≤ _; omega
          go_wp2
          go_ret2
          rw [HR.out]
          exact ⟨rfl, ⟨hb2⟩⟩
  · rw [Es.pqT_no hE]
    have hEn : ((Es.clE true s.data.toList : Int) != 0) = true := by simpa using hE
    generalize Es.clE true s.data.toList = E at *
    clear hE
    go_enter Tryd.func68, Tryd.ntmps68
    go_wp2_with (go_at_call 75; refine cC.mono ?_; rintro e w1 ⟨rfl, rfl⟩)
    go_ret2
    exact ⟨rfl, Gr.refl _⟩
end Go.Proofs.YtbfngdpdgmgfpaaDoor
namespace Go.Proofs.YtbfngdpdgmgfpaaDoor
open Go.RowKit

set_option maxHeartbeats 2000000 in
set_option maxRecDepth 100000 in
theorem refname_any (s : ByteArray) (w : World) (hs : s.size ≤ 140737488355328) :
    Calls Tryd.prog 51 #[.string s] w fun e w' => e = .returned (.bool (Ln.nameB s.data.toList)) ∧ w = w' := by
  have hsz := Lib.size_eq s
  have HB := Lib.hid (fun b h hb => Ln.nameB_bad (s := s.data.toList) (b := b) h hb)
  have HO := Lib.hid (fun (h0 : 0 < s.size) (h1 : s.size ≤ 60) h => Ln.nameB_ok (s := s.data.toList) (by omega) (by omega) h)
  have HZ := Lib.hid (fun (h : s.size = 0) => show Ln.nameB s.data.toList = false by rw [empty_list s h]; rfl)
  have HL := Lib.hid (fun (h : 60 < s.size) => Ln.nameB_long (s := s.data.toList) (by omega))
  generalize Ln.nameB s.data.toList = E at *
  clear hsz
  go_enter Tryd.func51, Tryd.ntmps51
  go_wp2
  go_loopg [6] s.size (fun g v wx => ∃ i : Nat, v = .int .i64 (i : Int) ∧ i + g = s.size ∧ w = wx ∧ Hid ((s.data.toList.take i).all Ln.inN = true))
  case atStart => exact ⟨0, rfl, by omega, rfl, Lib.hid (by simp)⟩
  case round =>
    obtain ⟨i, rfl, hig, rfl, HN⟩ := hrel
    have HG := Lib.hid hig
    clear hig
    by_cases hi : i < s.size
    · have cI := fun w => letter_any s[i] w
      cases hin : Ln.inN s[i]
      · have HE := Lib.hid (HB.out _ (at_mem s i hi) hin)
        rw [hin] at cI
        clear hin
        go_wp2_with (go_at_call 74; refine (cI _).mono ?_; rintro e w' ⟨rfl, rfl⟩)
        go_ret
        exact ⟨ret_bool HE.out.symm, rfl⟩
      · have HE := Lib.hid (all_at hi HN.out hin)
        rw [hin] at cI
        clear hin
        go_wp2_with (go_at_call 74; refine (cI _).mono ?_; rintro e w' ⟨rfl, rfl⟩)
        go_roundg (s.size - (i + 1))
        case measure => have := HG.out; omega
        case rel => exact ⟨i + 1, by go_num, by omega, rfl, HE⟩
    · have he := HN.out
      rw [take_end s i (by omega)] at he
      obtain rfl : i = s.size := by have := HG.out; omega
      rcases Nat.eq_zero_or_pos s.size with h0 | h0
      · have HE := Lib.hid (HZ.out h0)
        have h1 : ¬ (0 : Int) < (s.size : Int) := by omega
        clear he h0
        go_wp2
        go_ret
        exact ⟨ret_bool HE.out.symm, rfl⟩
      · have h1 : (0 : Int) < (s.size : Int) := by omega
        by_cases h60 : 60 < s.size
        · have HE := Lib.hid (HL.out h60)
          have h2 : ¬ (s.size : Int) ≤ 60 := by omega
          clear he h60
          go_wp2
          go_ret
          exact ⟨ret_bool HE.out.symm, rfl⟩
        · have HE := Lib.hid (HO.out h0 (by omega) he)
          have h2 : (s.size : Int) ≤ 60 := by omega
          clear he h60
          go_wp2
          go_ret
          exact ⟨ret_bool HE.out.symm, rfl⟩
set_option maxHeartbeats 8000000 in
set_option maxRecDepth 100000 in
theorem refformed_any (N V : ByteArray) (A : Option Addr) (n c : Nat) (ps : List Ln.Par) (w : World) (hP : Pars w w.heap.size A n ps) (hN : N.size ≤ 140737488355328) (hV : V.size ≤ 140737488355328)
    (hp1 : ∀ p ∈ ps, p.1.length ≤ 140737488355328) (hvn : ∀ p ∈ ps, p.2.length ≤ 140737488355328) (hp3 : ∀ p ∈ ps, ∀ v ∈ p.2, v.length ≤ 140737488355328) :
    Calls Tryd.prog 52 #[.agg #[.string N, .slice A n c, .string V]] w fun e w' => e = .returned (.bool (Ln.formed ⟨N.data.toList, ps, V.data.toList⟩)) ∧ Gr w w' := by
  have hlen : ps.length = n := hP.1
  have hg0 : Gr w (w.alloc (.cells #[.string N, .slice A n c, .string V] 53)) := (Gr.refl w).allocO _
  have hx0 := Bx3.new w (.string N) (.slice A n c) (.string V) 53
  have cN := fun w => refname_any N w hN
  cases hnm : Ln.nameB N.data.toList
  · rw [Ln.formed_name (l := ⟨N.data.toList, ps, V.data.toList⟩) hnm]
    rw [hnm] at cN
    clear hnm
    go_enter Tryd.func52, Tryd.ntmps52
    go_wp2_with (go_at_call 51; refine (cN _).mono ?_; rintro e w' ⟨rfl, rfl⟩)
    go_ret
    exact ⟨rfl, hg0⟩
  · rw [hnm] at cN
    by_cases h60 : 60 < n
    · rw [Ln.formed_many (l := ⟨N.data.toList, ps, V.data.toList⟩) (by show 60 < ps.length; omega)]
      have hi60 : (60 : Int) < (n : Int) := by omega
      clear hnm
      go_enter Tryd.func52, Tryd.ntmps52
      go_wp2_with (go_at_call 51; refine (cN _).mono ?_; rintro e w' ⟨rfl, rfl⟩)
      go_ret
      exact ⟨rfl, hg0⟩
    · have hi60 : ¬ (60 : Int) < (n : Int) := by omega
      have cF := fun w => clean_any false V w hV
      by_cases hcl : Es.clE false V.data.toList = 0
      · rw [hcl] at cF
        have HB := Lib.hid (fun h => Ln.formed_ps (l := ⟨N.data.toList, ps, V.data.toList⟩) h)
        have HO := Lib.hid (fun h => Ln.formed_ok (l := ⟨N.data.toList, ps, V.data.toList⟩) hnm (by show ps.length ≤ 60; omega) hcl h)
        have HL := Lib.hid hlen
        generalize Ln.formed ⟨N.data.toList, ps, V.data.toList⟩ = E at *
        clear hnm hlen hcl
        go_enter Tryd.func52, Tryd.ntmps52
        go_wp2_with (first
          | (go_at_call 51; refine (cN _).mono ?_; rintro e w' ⟨rfl, rfl⟩)
          | (go_at_call 75; refine (cF _).mono ?_; rintro e w' ⟨rfl, rfl⟩))
        generalize w.alloc (.cells #[.string N, .slice A n c, .string V] 53) = w0 at *
        have HX0 := Lib.hid hx0
        go_loopg [26] n (fun g v wx => ∃ k : Nat, v = .int .i64 (k : Int) ∧ k + g = n ∧ Gr w0 wx ∧ Hid (Ln.psB (ps.take k) = true))
        case atStart => exact ⟨0, rfl, by omega, Gr.refl _, Lib.hid (by rw [List.take_zero]; decide)⟩
        case round =>
          obtain ⟨k, rfl, hkg, hg3, HN⟩ := hrel
          have HG := Lib.hid hkg
          clear hkg
          have hg4 := hg0.trans hg3
          have hx3 := HX0.out.gr hg3
          by_cases hk : k < n
          · have hPr := hP.gr hg4
            obtain ⟨ad, hk', rfl, hbl, hc0, A', n', c', hc1, hS⟩ := hPr.at_ hk
            obtain ⟨x0, x1, x2, _, _, _⟩ := hx3
            have hvk := hvn _ (List.getElem_mem hk')
            have hvl := hS.1
            have hnv : n' ≤ 140737488355328 := by omega
            have HST := Lib.hid (Ln.psB_at ps k hk')
            have e1 : (ByteArray.mk ps[k].1.toArray).data.toList = ps[k].1 := rfl
            have cP := fun w => refname_any ⟨ps[k].1.toArray⟩ w (by rw [size_mk]; exact hp1 _ (List.getElem_mem hk'))
            rw [e1] at cP
            have hg5 : Gr wr (wr.alloc (.cells #[.string ⟨ps[k].1.toArray⟩, .slice A' n' c'] 81)) := (Gr.refl wr).allocO _
            have hy5 := Bx2.new wr (.string ⟨ps[k].1.toArray⟩) (.slice A' n' c') 81
            have HND : Hid ((ByteArray.mk ps[k].1.toArray).data.toList = ps[k].1) := Lib.hid rfl
            have HPN := Lib.hid (fun (h : Ln.parB ps[k] = false) => HB.out (Ln.psB_no ps (k + 1) (by rw [HST.out, h]; simp)))
            cases hnb : Ln.nameB ps[k].1
            · have HE : Hid (E = false) := Lib.hid (HPN.out (Ln.parB_name hnb))
              rw [hnb] at cP
              clear hnb e1 hvk hvl HST HPN HND
              generalize (ByteArray.mk ps[k].1.toArray) = nb at *
              go_wp2_with (go_at_call 51; refine (cP _).mono ?_; rintro e w' ⟨rfl, rfl⟩)
              go_ret
              exact ⟨ret_bool HE.out.symm, hg4.trans hg5⟩
            · rw [hnb] at cP
              rcases Nat.eq_zero_or_pos n' with h0 | h0
              · subst h0
                have HE : Hid (E = false) := Lib.hid (HPN.out (Ln.parB_zero hvl))
                clear hnb e1 hvk hvl HST HPN HND
                generalize (ByteArray.mk ps[k].1.toArray) = nb at *
                go_wp2_with (go_at_call 51; refine (cP _).mono ?_; rintro e w' ⟨rfl, rfl⟩)
                go_ret
                exact ⟨ret_bool HE.out.symm, hg4.trans hg5⟩
              · have h1 : ¬ (n' : Int) < 1 := by omega
                by_cases hm : 60 < n'
                · have HE : Hid (E = false) := Lib.hid (HPN.out (Ln.parB_many (by rw [hvl]; exact hm)))
                  have hm1 : (60 : Int) < (n' : Int) := by omega
                  clear hnb e1 hvk hvl HST HPN HND hm
                  generalize (ByteArray.mk ps[k].1.toArray) = nb at *
                  go_wp2_with (go_at_call 51; refine (cP _).mono ?_; rintro e w' ⟨rfl, rfl⟩)
                  go_ret
                  exact ⟨ret_bool HE.out.symm, hg4.trans hg5⟩
                · have hm1 : ¬ (60 : Int) < (n' : Int) := by omega
                  have HOk := Lib.hid (fun (h : ∀ v ∈ ps[k].2, Es.clE true v = 0) => Ln.parB_ok (p := ps[k]) hnb (by omega) (by omega) h)
                  have HVL := Lib.hid hvl
                  have HBD := Lib.hid (fun (v : List UInt8) (hv : v ∈ ps[k].2) (hc : Es.clE true v ≠ 0) => HPN.out (Ln.parB_bad (p := ps[k]) (v := v) hv hc))
                  have hp3k := hp3 _ (List.getElem_mem hk')
                  have HCT := Lib.hid (fun (h : ((ps.take k).map Prod.fst).contains ps[k].1 = true) => HB.out (Ln.psB_no ps (k + 1) (by rw [HST.out, h]; simp)))
                  have HGO := Lib.hid (fun (h : ((ps.take k).map Prod.fst).contains ps[k].1 = false) (h2 : Ln.parB ps[k] = true) => show Ln.psB (ps.take (k + 1)) = true by rw [HST.out, h, h2, HN.out]; rfl)
                  obtain ⟨pn, hpn⟩ : ∃ pn, ps[k].1 = pn := ⟨_, rfl⟩
                  clear hnb e1 hvk hvl HST HPN hm
                  rw [hpn] at HCT HGO
                  have HPK := Lib.hid hpn
                  have HNP : Hid ((ByteArray.mk ps[k].1.toArray).data.toList = pn) := Lib.hid (by rw [HND.out, hpn])
                  clear hpn HND
                  generalize (ByteArray.mk ps[k].1.toArray) = nb at *
                  go_wp2_with (go_at_call 51; refine (cP _).mono ?_; rintro e w' ⟨rfl, rfl⟩)
                  generalize wr.alloc (.cells #[.string nb, .slice A' n' c'] 81) = W at *
                  have HY5 := Lib.hid hy5
                  have HX5 := Lib.hid ((HX0.out.gr hg3).gr hg5)
                  have hgW := hg4.trans hg5
                  clear x0 x1 x2 hc0 hc1 hPr hy5
                  go_loopg [51] k (fun g v wx => ∃ j : Nat, v = .int .i64 (j : Int) ∧ j + g = k ∧ Gr W wx ∧ Hid (pn ∉ (ps.take j).map Prod.fst))
                  case atStart => exact ⟨0, rfl, by omega, Gr.refl _, Lib.hid (by simp)⟩
                  case round =>
                    obtain ⟨j, rfl, hjg, hgx, HNo⟩ := hrel
                    have HGJ := Lib.hid hjg
                    clear hjg
                    have hgWx := hgW.trans hgx
                    by_cases hj : j < k
                    · have hjn : j < n := by omega
                      have hxx := HX5.out.gr hgx
                      have hyx := HY5.out.gr hgx
                      obtain ⟨x0, x1, x2, _, _, _⟩ := hxx
                      have y0 := hyx.c0
                      have y1 := hyx.c1
                      obtain ⟨ad2, hj', he2, hbl2, hd0, A2', n2', c2', hd1, hS2⟩ := (hP.gr hgWx).at_ hjn
                      injection he2 with he2
                      subst he2
                      have HT1 := Lib.hid (List.take_succ_eq_append_getElem hj')
                      by_cases he : ps[j].1 = pn
                      · have hs1 : ((ByteArray.mk ps[j].1.toArray).toList == nb.toList) = true := str_eq ⟨fun _ => by rw [HNP.out]; exact he, fun _ => rfl⟩
                        have HE : Hid (E = false) := Lib.hid (HCT.out (by
                          rw [List.contains_iff_mem]
                          exact List.mem_map.2 ⟨ps[j], by rw [List.mem_take_iff_getElem]; exact ⟨j, by omega, rfl⟩, he⟩))
                        clear he
                        generalize (ByteArray.mk ps[j].1.toArray) = nj at *
                        go_wp2
                        go_quiet (fail)
                        go_wp2
                        go_ret
                        exact ⟨ret_bool HE.out.symm, hgWx.trans ((Gr.refl _).drewN _)⟩
                      · have hs1 : ((ByteArray.mk ps[j].1.toArray).toList == nb.toList) = false := str_eq ⟨fun h => (by cases h), fun h => absurd (by rw [HNP.out] at h; exact h) he⟩
                        have HE : Hid (pn ∉ (ps.take (j + 1)).map Prod.fst) := Lib.hid (by
                          rw [HT1.out, List.map_append, List.mem_append, List.map_cons, List.map_nil, List.mem_singleton]
                          exact fun h => h.elim HNo.out (fun e => he e.symm))
                        clear he
                        generalize (ByteArray.mk ps[j].1.toArray) = nj at *
                        go_wp2
                        go_quiet (fail)
                        go_wp2
                        go_roundg (k - (j + 1))
                        case measure => have := HGJ.out; omega
                        case rel => exact ⟨j + 1, by go_num, by omega, hgx.trans ((Gr.refl _).drewN _), HE⟩
                    · obtain rfl : j = k := by have := HGJ.out; omega
                      have HGO2 := Lib.hid (fun h2 => HGO.out (by
                        cases hc : ((ps.take j).map Prod.fst).contains pn
                        · rfl
                        · exact absurd (List.contains_iff_mem.1 hc) HNo.out) h2)
                      have hyx := HY5.out.gr hgx
                      have y0 := hyx.c0
                      have y1 := hyx.c1
                      have hSx := (hS.keep (hg5.trans hgx).below).more (hg5.trans hgx).lt
                      obtain ⟨vs, hvs⟩ : ∃ vs, ps[j].2 = vs := ⟨_, rfl⟩
                      rw [hvs] at hSx HBD HVL hp3k
                      have HOk2 := Lib.hid (fun (h : ∀ v ∈ vs, Es.clE true v = 0) => HGO2.out (HOk.out (by rw [hvs]; exact h)))
                      clear hvs
                      go_wp2
                      generalize wr = wy at *
                      go_loopg [67] n' (fun g v wx => ∃ i : Nat, v = .int .i64 (i : Int) ∧ i + g = n' ∧ Gr wy wx ∧ Hid (∀ v ∈ vs.take i, Es.clE true v = 0))
                      case atStart => exact ⟨0, rfl, by omega, Gr.refl _, Lib.hid (by simp)⟩
                      case round =>
                        obtain ⟨i, rfl, hig, hgz, HAll⟩ := hrel
                        have HGI := Lib.hid hig
                        clear hig y0 y1
                        have hyz := hyx.gr hgz
                        have y0 := hyz.c0
                        have y1 := hyz.c1
                        by_cases hi : i < n'
                        · obtain ⟨av, hi', rfl, hbv, hcv⟩ := ((hSx.keep hgz.below).more hgz.lt).at_ hi
                          have hle := hp3k _ (List.getElem_mem hi')
                          have cC := fun w => clean_any true ⟨vs[i].toArray⟩ w (by rw [size_mk]; exact hle)
                          have e3 : (ByteArray.mk vs[i].toArray).data.toList = vs[i] := rfl
                          rw [e3] at cC
                          by_cases hcl : Es.clE true vs[i] = 0
                          · rw [hcl] at cC
                            have HE := Lib.hid (all_take hi' HAll.out hcl)
                            clear hcl e3 hle
                            generalize (ByteArray.mk vs[i].toArray) = sv at *
                            go_wp2_with (go_at_call 75; refine (cC _).mono ?_; rintro e w' ⟨rfl, rfl⟩)
                            go_roundg (n' - (i + 1))
                            case measure => have := HGI.out; omega
                            case rel => exact ⟨i + 1, by go_num, by omega, hgz, HE⟩
                          · have HE := Lib.hid (HBD.out _ (List.getElem_mem hi') hcl)
                            have hne : ((Es.clE true vs[i] : Int) != 0) = true := by simpa using hcl
                            generalize Es.clE true vs[i] = EC at *
                            clear hcl e3 hle
                            generalize (ByteArray.mk vs[i].toArray) = sv at *
                            go_wp2_with (go_at_call 75; refine (cC _).mono ?_; rintro e w' ⟨rfl, rfl⟩)
                            go_ret
                            exact ⟨ret_bool HE.out.symm, hgWx.trans hgz⟩
                        · obtain rfl : i = n' := by have := HGI.out; omega
                          have he := HAll.out
                          rw [List.take_of_length_le (by rw [HVL.out]; exact Nat.le_refl _)] at he
                          have HE := Lib.hid (HOk2.out he)
                          clear he
                          go_wp2
                          go_roundg (n - (j + 1))
                          case measure => have := HG.out; omega
                          case rel => exact ⟨j + 1, by go_num, by omega, ((hg3.trans hg5).trans hgx).trans hgz, HE⟩
          · obtain rfl : k = n := by have := HG.out; omega
            have he := HN.out
            rw [List.take_of_length_le (by rw [HL.out]; exact Nat.le_refl _)] at he
            have HE := Lib.hid (HO.out he)
            clear he
            obtain ⟨x0, x1, x2, _, _, _⟩ := hx3
            go_wp2
            go_ret
            exact ⟨ret_bool HE.out.symm, hg4⟩
      · rw [Ln.formed_val (l := ⟨N.data.toList, ps, V.data.toList⟩) hcl]
        have hne : ((Es.clE false V.data.toList : Int) != 0) = true := by simpa using hcl
        generalize Es.clE false V.data.toList = EC at *
        clear hnm hcl
        go_enter Tryd.func52, Tryd.ntmps52
        go_wp2_with (first
          | (go_at_call 51; refine (cN _).mono ?_; rintro e w' ⟨rfl, rfl⟩)
          | (go_at_call 75; refine (cF _).mono ?_; rintro e w' ⟨rfl, rfl⟩))
        go_ret
        exact ⟨rfl, hg0⟩
end Go.Proofs.YtbfngdpdgmgfpaaDoor
namespace Go.Proofs.YtbfngdpdgmgfpaaDoor
open Go.RowKit

namespace Ln
/- the values behind a name, as they are written one by one -/
def prW (vs : List (List UInt8)) : List UInt8 := if vs = [] then [] else 61 :: prV vs
theorem prW_nil : prW [] = [] := rfl
theorem prW_all {vs : List (List UInt8)} (h : 0 < vs.length) : prW vs = 61 :: prV vs := by
  unfold prW; rw [if_neg (fun e => by rw [e] at h; simp at h)]
theorem prW_at0 (vs : List (List UInt8)) (h : 0 < vs.length) : prW (vs.take (0 + 1)) = ([61] : List UInt8) ++ Es.pq vs[0] := by
  have h1 := prV_at0 vs h
  rw [prW_all (by rw [List.length_take]; omega), h1]; simp [prV]
theorem prW_at (vs : List (List UInt8)) (k : Nat) (hk : k < vs.length) (h0 : 0 < k) : prW (vs.take (k + 1)) = prW (vs.take k) ++ [44] ++ Es.pq vs[k] := by
  rw [prW_all (by rw [List.length_take]; omega), prW_all (by rw [List.length_take]; omega), prV_at vs k hk h0]; simp
theorem prW_len (vs : List (List UInt8)) : (prW vs).length ≤ 3 * wtV vs + 1 := by
  have := prV_len vs
  unfold prW
  split
  · simp
  · rw [List.length_cons]; omega
end Ln
theorem cat_list (a b : ByteArray) : (a ++ b).data.toList = a.data.toList ++ b.data.toList := by simp [ByteArray.data_append]
theorem mk_list {s : ByteArray} {l : List UInt8} (h : s.data.toList = l) : s = ⟨l.toArray⟩ := by rw [← h]
set_option maxHeartbeats 8000000 in
set_option maxRecDepth 100000 in
theorem refprint_any (N V : ByteArray) (A : Option Addr) (n c : Nat) (ps : List Ln.Par) (w : World) (hP : Pars w w.heap.size A n ps) (hN : N.size ≤ 140737488355328) (hV : V.size ≤ 140737488355328)
    (hp1 : ∀ p ∈ ps, p.1.length ≤ 140737488355328) (hvn : ∀ p ∈ ps, p.2.length ≤ 140737488355328) (hp3 : ∀ p ∈ ps, ∀ v ∈ p.2, v.length ≤ 140737488355328)
    (hw0 : Ln.formed ⟨N.data.toList, ps, V.data.toList⟩ = true → N.size + V.size + Ln.wtPs ps ≤ 5000) :
    Calls Tryd.prog 47 #[.agg #[.string N, .slice A n c, .string V]] w fun e w' => e = .returned (.tuple #[.string ⟨(Ln.prT ⟨N.data.toList, ps, V.data.toList⟩).toArray⟩, .int .i64 (Ln.prE ⟨N.data.toList, ps, V.data.toList⟩)]) ∧ Gr w w' := by
  have hlen : ps.length = n := hP.1
  have hg0 : Gr w (w.alloc (.cells #[.string N, .slice A n c, .string V] 53)) := (Gr.refl w).allocO _
  have hx0 := Bx3.new w (.string N) (.slice A n c) (.string V) 53
  have cF := refformed_any N V A n c ps _ (hP.gr hg0) hN hV hp1 hvn hp3
  cases hfm : Ln.formed ⟨N.data.toList, ps, V.data.toList⟩
  · obtain ⟨e1, e2⟩ := Ln.pr_no hfm
    rw [e1, e2]
    rw [hfm] at cF
    clear hfm hw0 e1 e2
    go_enter Tryd.func47, Tryd.ntmps47
    go_wp2_with (go_at_call 52; refine cF.mono ?_; rintro e w1 ⟨rfl, hg1⟩)
    go_ret2
    exact ⟨rfl, hg0.trans hg1⟩
  · rw [hfm] at cF
    have hw := hw0 hfm
    clear hw0 hvn hp3 hp1
    have HOK := Lib.hid (fun h => Ln.pr_ok (l := ⟨N.data.toList, ps, V.data.toList⟩) hfm h)
    have HLG := Lib.hid (fun h => Ln.pr_long (l := ⟨N.data.toList, ps, V.data.toList⟩) hfm h)
    have HCL := Lib.hid (fun k hk => Ln.formed_at (l := ⟨N.data.toList, ps, V.data.toList⟩) hfm k hk)
    have HVP := Lib.hid (fun (k : Nat) (hk : k < ps.length) => ((Ln.parB_iff _).1 (((Ln.psB_iff _).1 ((Ln.formed_iff ⟨N.data.toList, ps, V.data.toList⟩).1 hfm).2.2.2).1 _ (List.getElem_mem hk))).2.1)
    have HPR : Hid (Ln.pr ⟨N.data.toList, ps, V.data.toList⟩ = N.data.toList ++ ps.flatMap Ln.prP ++ [58] ++ V.data.toList) := Lib.hid (by simp [Ln.pr])
    generalize Ln.prT ⟨N.data.toList, ps, V.data.toList⟩ = T at *
    generalize Ln.prE ⟨N.data.toList, ps, V.data.toList⟩ = E at *
    generalize Ln.pr ⟨N.data.toList, ps, V.data.toList⟩ = PR at *
    have HL := Lib.hid hlen
    have hnle : n ≤ 5000 := by have := Ln.wtPs_len ps; omega
    clear hfm hlen
    go_enter Tryd.func47, Tryd.ntmps47
    go_wp2_with fail
    refine cF.mono ?_
    rintro e w1 ⟨rfl, hg1⟩
    have HX1 := Lib.hid (hx0.gr hg1)
    have hg2 := hg0.trans hg1
    have hx1 := hx0.gr hg1
    obtain ⟨x0, x1, x2, _, _, _⟩ := hx1
    clear cF hx0
    go_wp2
    go_loopg [4, 17] n (fun g v4 v17 wx => ∃ sb : ByteArray, ∃ k : Nat, v4 = .string sb ∧ v17 = .int .i64 (k : Int) ∧ k + g = n ∧ Gr w1 wx ∧ Hid (sb.data.toList = N.data.toList ++ (ps.take k).flatMap Ln.prP))
    case atStart => exact ⟨N, 0, rfl, rfl, by omega, Gr.refl _, Lib.hid (by simp)⟩
    case round =>
      obtain ⟨sb, k, rfl, rfl, hkg, hgx, HSB⟩ := hrel
      have HG := Lib.hid hkg
      clear hkg x0 x1 x2
      have hxr := HX1.out.gr hgx
      obtain ⟨x0, x1, x2, _, _, _⟩ := hxr
      have hsbl : sb.size ≤ N.size + 3 * Ln.wtPs (ps.take k) := by
        rw [Lib.size_eq sb, HSB.out, List.length_append, ← Lib.size_eq]
        have := Ln.prPs_len (ps.take k)
        omega
      by_cases hk : k < n
      · obtain ⟨ad, hk', rfl, hbl, hc0, A', n', c', hc1, hS⟩ := (hP.gr (hg2.trans hgx)).at_ hk
        have hwt := Ln.wtPs_take ps k hk'
        have hwl := Ln.wtPs_le ps (k + 1)
        have HAT := Lib.hid (Ln.prPs_at ps k hk' N.data.toList)
        have HC := Lib.hid (HCL.out k hk')
        have hpn : ps[k].1.length + 1 + Ln.wtV ps[k].2 = Ln.wtP ps[k] := rfl
        have hnz : (ByteArray.mk ps[k].1.toArray).size = ps[k].1.length := size_mk _
        have HND : Hid ((ByteArray.mk ps[k].1.toArray).data.toList = ps[k].1) := Lib.hid rfl
        rw [← hnz] at hpn
        have hvl := hS.1
        have hv0 := HVP.out k hk'
        obtain ⟨vs, hvs⟩ : ∃ vs, ps[k].2 = vs := ⟨_, rfl⟩
        rw [hvs] at hS HC hpn hvl hv0 HAT
        have hsb1 : (sb ++ ⟨#[59]⟩).size ≤ sb.size + 1 := by rw [ByteArray.size_append]; exact Nat.le_refl _
        have hbd : sb.size + 1 + ps[k].1.length + 3 * Ln.wtV vs + 1 ≤ 20000 := by omega
        rw [← hnz] at hbd
        have hnm2 : (ByteArray.mk ps[k].1.toArray).size ≤ 20000 := by omega
        have hsb2 : sb.size ≤ 20000 := by omega
        have hsb3 : (sb ++ ⟨#[59]⟩).size ≤ 20000 := by omega
        have hnv : n' ≤ 20000 := by have := Ln.wtV_len vs; omega
        have HVL := Lib.hid (And.intro hvl hv0)
        clear hvs hwt hwl hpn hnz hvl hv0 hsb1
        generalize (ByteArray.mk ps[k].1.toArray) = nm at *
        have hbd2 : (sb ++ ⟨#[59]⟩ ++ nm).size + (3 * Ln.wtV vs + 1) ≤ 20000 := by
          rw [ByteArray.size_append, ByteArray.size_append]
          show sb.size + 1 + nm.size + _ ≤ _
          omega
        have HB0 : Hid ((sb ++ ⟨#[59]⟩ ++ nm).data.toList = N.data.toList ++ (ps.take k).flatMap Ln.prP ++ [59] ++ ps[k].1) := Lib.hid (by rw [cat_list, cat_list, HSB.out, HND.out])
        have HBD := Lib.hid hbd2
        clear hbd hbd2 hsbl
        go_wp2
        obtain ⟨bs, hbs⟩ : ∃ bs, sb ++ ⟨#[59]⟩ ++ nm = bs := ⟨_, rfl⟩
        rw [hbs] at HB0 HBD
        try rw [hbs]
        go_loopg [4, 36] n' (fun g v4 v36 wy => ∃ sc : ByteArray, ∃ i : Nat, v4 = .string sc ∧ v36 = .int .i64 (i : Int) ∧ i + g = n' ∧ Gr wr wy ∧ Hid (sc.data.toList = bs.data.toList ++ Ln.prW (vs.take i)))
        case atStart => exact ⟨bs, 0, rfl, rfl, by omega, Gr.refl _, Lib.hid (by rw [List.take_zero, Ln.prW_nil, List.append_nil])⟩
        case round =>
          obtain ⟨sc, i, rfl, rfl, hig, hgy, HSC⟩ := hrel
          have HGI := Lib.hid hig
          clear hig x0 x1 x2
          have hxr := (HX1.out.gr hgx).gr hgy
          obtain ⟨x0, x1, x2, _, _, _⟩ := hxr
          have hscl : sc.size ≤ bs.size + (3 * Ln.wtV (vs.take i) + 1) := by
            rw [Lib.size_eq sc, HSC.out, List.length_append, ← Lib.size_eq]
            have := Ln.prW_len (vs.take i)
            omega
          by_cases hi : i < n'
          · obtain ⟨av, hi', rfl, hbv, hcv0⟩ := hS.at_ hi
            have hcv := gr_cell hgy hcv0
            have hd1 := gr_cell hgy hc1
            have hwvl := Ln.wtV_le vs i
            have hmem : vs[i] ∈ vs := List.getElem_mem hi'
            have hcl := HC.out _ hmem
            have hvz := Ln.wtV_mem hmem
            have hbb := HBD.out
            have hpq := Es.pq_len vs[i]
            have cP := fun w' => refparam_any ⟨vs[i].toArray⟩ w' (by rw [size_mk]; omega)
            have e1 : (ByteArray.mk vs[i].toArray).data.toList = vs[i] := rfl
            rw [e1, Es.pqT_ok hcl, hcl] at cP
            have hpz : (ByteArray.mk (Es.pq vs[i]).toArray).size = (Es.pq vs[i]).length := size_mk _
            rw [← hpz] at hpq
            have HPD : Hid ((ByteArray.mk (Es.pq vs[i]).toArray).data.toList = Es.pq vs[i]) := Lib.hid rfl
            have HV0 := Lib.hid (fun (h : i = 0) => show Ln.prW (vs.take (i + 1)) = Ln.prW (vs.take i) ++ [61] ++ Es.pq vs[i] by subst h; rw [Ln.prW_at0 vs hi']; simp [Ln.prW_nil])
            have HV1 := Lib.hid (fun (h : 0 < i) => Ln.prW_at vs i hi' h)
            have hsc1 : sc.size ≤ 60000 := by omega
            have hpv1 : (ByteArray.mk (Es.pq vs[i]).toArray).size ≤ 60010 := by omega
            clear e1 hcl hpz hpq hvz hmem hwvl hbb hscl
            generalize (ByteArray.mk (Es.pq vs[i]).toArray) = pv at *
            generalize (ByteArray.mk vs[i].toArray) = sv at *
            by_cases h0 : i = 0
            · have hz : ((i : Int) == 0) = true := by rw [h0]; rfl
              have hsc2 : (sc ++ ⟨#[61]⟩).size ≤ 60001 := by rw [ByteArray.size_append]; show sc.size + 1 ≤ _; omega
              have HE : Hid ((sc ++ ⟨#[61]⟩ ++ pv).data.toList = bs.data.toList ++ Ln.prW (vs.take (i + 1))) := Lib.hid (by rw [cat_list, cat_list, HSC.out, HPD.out, HV0.out h0]; simp)
              clear h0
              go_wp2_with (go_at_call 68; refine (cP _).mono ?_; rintro e w' ⟨rfl, hg7⟩)
              go_roundg (n' - (i + 1))
              case measure => have := HGI.out; omega
              case rel => exact ⟨_, i + 1, rfl, by go_num, by omega, hgy.trans hg7, HE⟩
            · have hz : ((i : Int) == 0) = false := by rw [beq_eq_false_iff_ne]; omega
              have hsc2 : (sc ++ ⟨#[44]⟩).size ≤ 60001 := by rw [ByteArray.size_append]; show sc.size + 1 ≤ _; omega
              have HE : Hid ((sc ++ ⟨#[44]⟩ ++ pv).data.toList = bs.data.toList ++ Ln.prW (vs.take (i + 1))) := Lib.hid (by rw [cat_list, cat_list, HSC.out, HPD.out, HV1.out (by omega)]; simp)
              clear h0
              go_wp2_with (go_at_call 68; refine (cP _).mono ?_; rintro e w' ⟨rfl, hg7⟩)
              go_roundg (n' - (i + 1))
              case measure => have := HGI.out; omega
              case rel => exact ⟨_, i + 1, rfl, by go_num, by omega, hgy.trans hg7, HE⟩
          · obtain rfl : i = n' := by have := HGI.out; omega
            have he := HSC.out
            rw [List.take_of_length_le (by rw [HVL.out.1]; exact Nat.le_refl _), Ln.prW_all HVL.out.2, HB0.out] at he
            have HE : Hid (sc.data.toList = N.data.toList ++ (ps.take (k + 1)).flatMap Ln.prP) := Lib.hid (by rw [he, HAT.out]; simp)
            clear he
            go_wp2
            go_roundg (n - (k + 1))
            case measure => have := HG.out; omega
            case rel => exact ⟨sc, k + 1, rfl, by go_num, by omega, hgx.trans hgy, HE⟩
      · obtain rfl : k = n := by have := HG.out; omega
        have hsb : sb.size ≤ 20000 := by have := Ln.wtPs_le ps k; omega
        have hsb1 : (sb ++ ⟨#[58]⟩).size ≤ 20001 := by rw [ByteArray.size_append]; show sb.size + 1 ≤ _; omega
        have hV2 : V.size ≤ 20000 := by omega
        have HTX : Hid ((sb ++ ⟨#[58]⟩ ++ V).data.toList = PR) := Lib.hid (by
          rw [cat_list, cat_list, HSB.out, HPR.out, List.take_of_length_le (by rw [HL.out]; exact Nat.le_refl _)])
        have HSZ : Hid (sb.size + 1 + V.size = PR.length) := Lib.hid (by
          have h1 : (sb ++ ⟨#[58]⟩ ++ V).size = PR.length := by rw [Lib.size_eq, HTX.out]
          rw [ByteArray.size_append, ByteArray.size_append] at h1
          exact h1)
        clear hsbl
        by_cases hlen : 2000 < PR.length
        · obtain ⟨e1, e2⟩ := HLG.out hlen
          have hli : (2000 : Int) < (sb.size : Int) + 1 + (V.size : Int) := by have := HSZ.out; omega
          have HE := Lib.hid (And.intro e1 e2)
          clear e1 e2 hlen HLG HOK
          go_wp2
          go_ret2
          rw [HE.out.1, HE.out.2]
          exact ⟨rfl, hg2.trans hgx⟩
        · obtain ⟨e1, e2⟩ := HOK.out (by omega)
          have hli : ¬ (2000 : Int) < (sb.size : Int) + 1 + (V.size : Int) := by have := HSZ.out; omega
          have HE := Lib.hid (And.intro e1 e2)
          clear e1 e2 hlen HLG HOK
          go_wp2
          go_ret2
          rw [HE.out.1, HE.out.2, ← mk_list HTX.out]
          exact ⟨rfl, hg2.trans hgx⟩
end Go.Proofs.YtbfngdpdgmgfpaaDoor
