/- What clock.digits returns. -/
import Derived.Test.YtafpdiikhhikeaaGreatDoorShelf
import Derived.Test.YtafpdiikhhikeaaGreatDoorClk
import Derived.Test.YtafpdiikhhikeaaGreatDoorTxt
import Derived.Lib.Strings
namespace Go.Proofs.YtafpdiikhhikeaaGreatDoor
open Go.RowKit

def Tab (w : World) : Prop := Lib.TabIs Tryz.prog w "internal/strconv.uint64pow10" .u64 Lib.pow10Tab
theorem Tab.keep {w w' : World} (h : Tab w) (hg : Gr w w') : Tab w' := by
  unfold Tab Lib.TabIs World.var? at h ⊢
  rcases hn : Tryz.prog.globalNamed "internal/strconv.uint64pow10" with _ | g
  · rw [hn] at h; exact h
  · rw [hn] at h
    simp only [Option.bind_some] at h ⊢
    rcases Nat.lt_or_ge g w.heap.size with hlt | hge
    · rw [hg.below.block g hlt]; exact h
    · rw [Array.getElem?_eq_none hge] at h; cases h
theorem Gr.grow (w : World) (k : Nat) (os : Array Obj) : Gr w (Sort.grow (w.drewN k) os) :=
  ⟨rfl, rfl, rfl, by simp [Sort.grow, World.drewN], fun j hj => by simp [Sort.grow, World.drewN, Array.getElem?_append, hj]⟩
theorem itoa_any (n : Int) (w : World) (ht : Tab w) (h0 : 0 ≤ n) (h1 : n ≤ 9223372036854775807) :
    Calls Tryz.prog 44 #[.int .i64 n] w fun e w' => e = .returned (.string ⟨(Lib.decDigits n.toNat).toArray⟩) ∧ Gr w w' := by
  refine (Tryz.strconv_Itoa n (by omega) h1 w ht).mono ?_
  rintro e w' ⟨rfl, k, os, rfl⟩
  refine ⟨?_, Gr.grow _ _ _⟩
  rw [Lib.itoa, if_neg (by omega)]
theorem repeat_any (c : Int) (w : World) (h0 : 0 ≤ c) (h : c ≤ 1000) :
    Calls Tryz.prog 45 #[.string ⟨#[48]⟩, .int .i64 c] w fun e w' => e = .returned (.string ⟨(List.replicate c.toNat 48).toArray⟩) ∧ Gr w w' := by
  obtain ⟨c, rfl⟩ := Int.eq_ofNat_of_zero_le h0
  rw [Int.toNat_natCast]
  refine (Tryz.strings_Repeat ⟨#[48]⟩ c w (by omega) (by show 1 * c ≤ _; omega)).mono ?_
  rintro e w' ⟨rfl, hb⟩
  exact ⟨by rw [Txt.rep_zero], ⟨hb⟩⟩

theorem cat (a b : List UInt8) : (⟨a.toArray⟩ : ByteArray) ++ ⟨b.toArray⟩ = ⟨(a ++ b).toArray⟩ := by
  ext1
  simp [ByteArray.data_append]
theorem mkstr {a b : ByteArray} (h : a = b) : Ending.returned (.string a) = .returned (.string b) := by rw [h]
namespace Clk
def num8 (y m d : Int) : Nat := (10000 * y + 100 * m + d).toNat
end Clk
set_option maxHeartbeats 1000000 in
theorem digits_any (a b c : Int) (k : Nat) (w : World) (ht : Tab w) (a0 : 0 ≤ a) (a1 : a ≤ 9999) (b0 : 0 ≤ b) (b1 : b < 100) (c0 : 0 ≤ c) (c1 : c < 100) (hk : Clk.num8 a b c < 10 ^ (k + 1)) (hk' : k ≤ 8) :
    Calls Tryz.prog 28 #[.int .i64 a, .int .i64 b, .int .i64 c, .int .i64 ((k + 1 : Nat) : Int)] w fun e w' => e = .returned (.string ⟨(Txt.dig (Clk.num8 a b c) (k + 1)).toArray⟩) ∧ Gr w w' := by
  unfold Clk.num8 at hk ⊢
  have hl := Txt.dec_len k _ hk
  have HP := Lib.hid (Txt.dec_pad k _ hk)
  clear hk
  go_enter Tryz.func28, Tryz.ntmps28
  go_wp2_with fail
  refine (itoa_any _ _ ht (by omega) (by omega)).mono ?_
  rintro e w1 ⟨rfl, hb⟩
  go_wp2_with fail
  refine (repeat_any _ _ (by omega) (by omega)).mono ?_
  rintro e w2 ⟨rfl, hb2⟩
  go_wp2
  go_ret
  refine ⟨mkstr ?_, hb.trans hb2⟩
  rw [← HP.out, ← cat, ← List.toArray_replicate]
end Go.Proofs.YtafpdiikhhikeaaGreatDoor
