/- What clock.read returns. -/
import Derived.Test.YtafpdiikhhikeaaGreatDoorChecked
import Derived.Test.YtafpdiikhhikeaaGreatDoorGr
import Derived.Test.YtafpdiikhhikeaaGreatDoorTxt
import Derived.Lib.Strings
namespace Go.Proofs.YtafpdiikhhikeaaGreatDoor
open Go.RowKit

namespace Txt
theorem take_succ_val (l : List UInt8) (i : Nat) (h : i < l.length) : val (l.take (i + 1)) 0 = 10 * val (l.take i) 0 + (l[i].toNat - 48) := by
  rw [List.take_succ_eq_append_getElem h, val_snoc]
theorem val_take_lt (l : List UInt8) (i : Nat) (hl : l.length ≤ 8) (h : l.all isD = true) : val (l.take i) 0 < 100000000 := by
  have h1 : (l.take i).all isD = true := by
    rw [List.all_eq_true] at h ⊢
    exact fun x hx => h x (List.mem_of_mem_take hx)
  have h2 := val_lt _ 0 h1
  have h3 : 10 ^ (l.take i).length ≤ 10 ^ 8 := Nat.pow_le_pow_right (by omega) (by rw [List.length_take]; omega)
  omega
theorem val_all_lt (l : List UInt8) (hl : l.length ≤ 8) (h : l.all isD = true) : val l 0 < 100000000 := by
  have h2 := val_lt _ 0 h
  have h3 : 10 ^ l.length ≤ 10 ^ 8 := Nat.pow_le_pow_right (by omega) hl
  omega
theorem all_take_succ (l : List UInt8) (i : Nat) (h : i < l.length) (ha : (l.take i).all isD = true) (hb : isD l[i] = true) : (l.take (i + 1)).all isD = true := by
  rw [List.take_succ_eq_append_getElem h, List.all_append, ha]; simp [hb]
end Txt
theorem byte_at (s : ByteArray) (i : Nat) (h : i < s.data.size) : s.data[i] = s.data.toList[i]'(by simpa using h) := by simp

set_option maxHeartbeats 1000000 in
theorem read_yes (s : ByteArray) (w : World) (hl : s.size ≤ 8) (hd : s.data.toList.all Txt.isD = true) :
    Calls Tryz.prog 33 #[.string s] w fun e w' => e = .returned (.tuple #[.int .i64 ((Txt.val s.data.toList 0 : Int) / 10000), .int .i64 ((Txt.val s.data.toList 0 : Int) / 100 % 100), .int .i64 ((Txt.val s.data.toList 0 : Int) % 100), .bool true]) ∧ w = w' := by
  have hsz := Lib.size_eq s
  have HD := Lib.hid hd
  have hlt : ∀ i, Txt.val (s.data.toList.take i) 0 < 100000000 := fun i => Txt.val_take_lt _ i (by omega) hd
  have HL := Lib.hid hlt
  have HZ := Lib.hid hsz
  clear hd hlt hsz
  go_enter Tryz.func33, Tryz.ntmps33
  go_wp2
  go_loop [6, 10] (fun n i => ∃ k : Nat, k ≤ s.size ∧ i = .int .i64 (k : Int) ∧ n = .int .i64 (Txt.val (s.data.toList.take k) 0 : Int)) (fun _ i => (s.size - intOf i).toNat)
  case atStart => exact ⟨0, by omega, rfl, rfl⟩
  case round =>
    obtain ⟨k, k1, rfl, rfl⟩ := hrel
    have vb := HL.out k
    by_cases hk : k < s.data.size
    · have h' : k < s.data.toList.length := by simpa using hk
      have eb := byte_at s k hk
      obtain ⟨hb1, hb2⟩ := Txt.isD_iff.1 (List.all_eq_true.1 HD.out _ (List.getElem_mem h'))
      have ht := Txt.take_succ_val _ k h'
      rw [← eb] at hb1 hb2 ht
      have i1 : (48 : Int) ≤ s.data[k].toNat := by omega
      have i2 : (s.data[k].toNat : Int) ≤ 57 := by omega
      have d1 : decide ((s.data[k].toNat : Int) < 48) = false := by simp; omega
      have d2 : decide ((57 : Int) < s.data[k].toNat) = false := by simp; omega
      have HT := Lib.hid ht
      have hz : k < s.size := hk
      have j1 : (48 : Int) ≤ s[k].toNat := i1
      have j2 : (s[k].toNat : Int) ≤ 57 := i2
      have f1 : decide ((s[k].toNat : Int) < 48) = false := d1
      have f2 : decide ((57 : Int) < s[k].toNat) = false := d2
      have es := Lib.hid (show s[k].toNat = s.data[k].toNat from rfl)
      clear eb ht
      go_wp2
      go_round
      case rel =>
        refine ⟨k + 1, by omega, rfl, ?_⟩
        have := es.out
        rw [HT.out]
        congr 1
        omega
      case measure => simp [intOf]; omega
    · have hz : s.size = k := by have : s.size = s.data.size := rfl
                                 omega
      have e : s.data.toList.take k = s.data.toList := List.take_of_length_le (by rw [← HZ.out]; omega)
      rw [e] at vb
      rw [e]
      go_wp2
      exact bodyPost_ret (v := .tuple #[.int .i64 ((Txt.val s.data.toList 0 : Int) / 10000), .int .i64 ((Txt.val s.data.toList 0 : Int) / 100 % 100), .int .i64 ((Txt.val s.data.toList 0 : Int) % 100), .bool true]) (by simp [results, Tryz.results33, go_sem]) rfl ⟨rfl, rfl⟩

set_option maxHeartbeats 1000000 in
theorem read_no (s : ByteArray) (w : World) (hl : s.size ≤ 8) (hd : s.data.toList.all Txt.isD = false) :
    Calls Tryz.prog 33 #[.string s] w fun e w' => e = .returned (.tuple #[.int .i64 0, .int .i64 0, .int .i64 0, .bool false]) ∧ w = w' := by
  have hsz := Lib.size_eq s
  have HD := Lib.hid hd
  have HZ := Lib.hid hsz
  clear hd hsz
  go_enter Tryz.func33, Tryz.ntmps33
  go_wp2
  go_loop [6, 10] (fun n i => ∃ k : Nat, k ≤ s.size ∧ i = .int .i64 (k : Int) ∧ n = .int .i64 (Txt.val (s.data.toList.take k) 0 : Int) ∧ (s.data.toList.take k).all Txt.isD = true) (fun _ i => (s.size - intOf i).toNat)
  case atStart => exact ⟨0, by omega, rfl, rfl, rfl⟩
  case round =>
    obtain ⟨k, k1, rfl, rfl, ha⟩ := hrel
    have vb := Txt.val_all_lt _ (by rw [List.length_take, ← HZ.out]; omega) ha
    have HA := Lib.hid ha
    clear ha
    by_cases hk : k < s.data.size
    · have h' : k < s.data.toList.length := by simpa using hk
      have eb := byte_at s k hk
      have hz : k < s.size := hk
      have ht := Txt.take_succ_val _ k h'
      have hn := Txt.all_take_succ _ k h' HA.out
      rw [← eb] at ht hn
      have HT := Lib.hid ht
      have HN := Lib.hid hn
      clear eb ht hn
      by_cases c1 : s.data[k].toNat < 48
      · have i1 : (s.data[k].toNat : Int) < 48 := by omega
        have j1 : (s[k].toNat : Int) < 48 := i1
        go_wp2
        exact bodyPost_ret (v := .tuple #[.int .i64 0, .int .i64 0, .int .i64 0, .bool false]) (by simp [results, Tryz.results33, go_sem]) rfl ⟨rfl, rfl⟩
      · have i1 : (48 : Int) ≤ s.data[k].toNat := by omega
        have j1 : (48 : Int) ≤ s[k].toNat := i1
        have d1 : decide ((s.data[k].toNat : Int) < 48) = false := by simp; omega
        have f1 : decide ((s[k].toNat : Int) < 48) = false := d1
        by_cases c2 : 57 < s.data[k].toNat
        · have i2 : (57 : Int) < s.data[k].toNat := by omega
          have j2 : (57 : Int) < s[k].toNat := i2
          go_wp2
          exact bodyPost_ret (v := .tuple #[.int .i64 0, .int .i64 0, .int .i64 0, .bool false]) (by simp [results, Tryz.results33, go_sem]) rfl ⟨rfl, rfl⟩
        · have i2 : (s.data[k].toNat : Int) ≤ 57 := by omega
          have j2 : (s[k].toNat : Int) ≤ 57 := i2
          have d2 : decide ((57 : Int) < s.data[k].toNat) = false := by simp; omega
          have f2 : decide ((57 : Int) < s[k].toNat) = false := d2
          have es := Lib.hid (show s[k].toNat = s.data[k].toNat from rfl)
          have hb : Txt.isD s.data[k] = true := Txt.isD_iff.2 ⟨by omega, by omega⟩
          have HB := Lib.hid hb
          clear hb
          go_wp2
          go_round
          case rel =>
            refine ⟨k + 1, by omega, rfl, ?_, HN.out HB.out⟩
            have := es.out
            rw [HT.out]
            congr 1
            omega
          case measure => simp [intOf]; omega
    · exfalso
      have : s.size = s.data.size := rfl
      have e : s.data.toList.take k = s.data.toList := List.take_of_length_le (by rw [← HZ.out]; omega)
      have h1 := HA.out
      rw [e, HD.out] at h1
      cases h1
end Go.Proofs.YtafpdiikhhikeaaGreatDoor
