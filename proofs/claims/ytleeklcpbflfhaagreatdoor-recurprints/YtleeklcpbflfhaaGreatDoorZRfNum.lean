/- What the reference's Number (of what may be negative) and numbers return. -/
import Derived.Test.YtleeklcpbflfhaaGreatDoorZRfLeaf
import Derived.Test.YtleeklcpbflfhaaGreatDoorZRefDur
import Derived.Test.YtleeklcpbflfhaaGreatDoorZC
import Derived.Test.YtleeklcpbflfhaaGreatDoorZO
import Derived.Test.YtleeklcpbflfhaaGreatDoorZE
import Derived.Deep.LoopGhost
namespace Go.Proofs.YtleeklcpbflfhaaGreatDoor
open Go.RowKit

set_option maxHeartbeats 1000000 in
theorem rnum_any (n : Int) (w : World) (h0 : -9999 ≤ n) (h1 : n ≤ 9999) :
    Calls Tryz.prog 22 #[.int .i64 n] w fun e w' => e = .returned (.string ⟨(Rm.nt n).toArray⟩) ∧ Gr w w' := by
  by_cases h : 0 ≤ n
  · rw [Rm.nt_de h]
    exact rnumber_any n w h (by omega)
  · have hn : n < 0 := by omega
    have cN := fun w => rnumber_any (-n) w (by omega) (by omega)
    have hl : (Va.de (-n)).length ≤ 4 := (Va.num_iff.1 (Rm.de_num4 (n := -n) (by omega) (by omega)).1).2.1
    have hz : (ByteArray.mk (Va.de (-n)).toArray).size ≤ 4 := by rw [Lib.size_eq]; exact hl
    have e : ByteArray.mk (Rm.nt n).toArray = ByteArray.mk #[45] ++ ByteArray.mk (Va.de (-n)).toArray := by
      rw [show ByteArray.mk #[45] = ByteArray.mk ([45] : List UInt8).toArray from rfl, cat]
      unfold Rm.nt
      rw [if_pos hn]
      rfl
    rw [e]
    generalize ByteArray.mk (Va.de (-n)).toArray = x at *
    clear e hl h
    go_enter Tryz.func22, Tryz.ntmps22
    go_wp2_with (go_at_call 22; refine (cN _).mono ?_; rintro e w1 ⟨rfl, hg⟩)
    go_ret
    exact ⟨rfl, hg⟩
namespace Rm
def nmb (i : Nat) (l : List Int) : List UInt8 := if l = [] then [] else 59 :: (nmL i ++ 61 :: lt l)
theorem nmL_len : ∀ i, i < 8 → (nmL i).length ≤ 10 := by decide
theorem nmb_len {i : Nat} (hi : i < 8) {l : List Int} (hn : l.length ≤ 1000) (hb : ∀ x ∈ l, -9999 ≤ x ∧ x ≤ 9999) : (nmb i l).length ≤ 6012 := by
  have h1 := nmL_len i hi
  have h2 := joinB_len (c := 44) (k := 5) (l.map nt) (fun x hx => by
    obtain ⟨z, hz, rfl⟩ := List.mem_map.1 hx
    exact nt_len (hb z hz).1 (hb z hz).2)
  rw [List.length_map] at h2
  unfold nmb
  split
  · simp
  · rw [List.length_cons, List.length_append, List.length_cons]
    unfold lt
    omega
theorem nmb_one (i : Nat) (x : Int) : nmb i [x] = 59 :: (nmL i ++ 61 :: nt x) := rfl
theorem nmb_app (i : Nat) (l : List Int) (x : Int) (h : l ≠ []) : nmb i (l ++ [x]) = nmb i l ++ (44 :: nt x) := by
  unfold nmb
  rw [if_neg (by simp), if_neg h]
  unfold lt
  rw [List.map_append, List.map_singleton, joinB_app 44 _ _ (by simpa using h)]
  simp
end Rm
set_option maxRecDepth 100000 in
set_option maxHeartbeats 2000000 in
theorem rnumbers_any (i : Nat) (hi : i < 8) (A : Option Addr) (n c : Nat) (l : List Int) (w : World) (hN : Nums w w.heap.size A n l) (hn : n ≤ 1000) (hb : ∀ x ∈ l, -9999 ≤ x ∧ x ≤ 9999) :
    Calls Tryz.prog 24 #[.int .i64 (i : Int), .slice A n c] w fun e w' => e = .returned (.string ⟨(Rm.nmb i l).toArray⟩) ∧ Gr w w' := by
  have hl : l.length = n := hN.1
  have HL := Lib.hid hl
  have HB := Lib.hid hb
  have cP := fun w' => (rpart_any i hi w').mono (fun e w'' h => (⟨h.1, by rw [← h.2]; exact Gr.refl _⟩ : e = .returned (.string ⟨(Rm.nmL i).toArray⟩) ∧ Gr w' w''))
  have hz1 : (ByteArray.mk (Rm.nmL i).toArray).size ≤ 10 := by rw [Lib.size_eq]; exact Rm.nmL_len i hi
  have HI := Lib.hid hi
  clear hl hb hi
  go_enter Tryz.func24, Tryz.ntmps24
  go_wp2
  go_loopg [5, 9] n (fun g v5 v wx => ∃ k : Nat, ∃ s : ByteArray, v = .int .i64 (k : Int) ∧ v5 = .string s ∧ k + g = n ∧ Gr w wx ∧ s.size ≤ 6012 ∧ Hid (s.data.toList = Rm.nmb i (l.take k)))
  case atStart => exact ⟨0, ⟨#[]⟩, rfl, rfl, by omega, Gr.refl _, by decide, Lib.hid rfl⟩
  case round =>
    obtain ⟨k, s, rfl, rfl, hkg, hg, hs, HS⟩ := hrel
    have HG := Lib.hid hkg
    clear hkg
    by_cases hk : k < n
    · obtain ⟨ad, hk', rfl, hbl, hc⟩ := hN.at_ hk
      have d0 := (hg.below.cell (p := ad.add k) (by rw [add_block]; exact hbl)).trans hc
      have hx := HB.out l[k] (List.getElem_mem hk')
      have cN := fun w1 => rnum_any l[k] w1 hx.1 hx.2
      have hz2 : (ByteArray.mk (Rm.nt l[k]).toArray).size ≤ 5 := by rw [Lib.size_eq]; exact Rm.nt_len hx.1 hx.2
      have HT := Lib.hid (List.take_succ_eq_append_getElem hk')
      have HZ := Lib.hid (Rm.nmb_len HI.out (l := l.take (k + 1)) (by rw [List.length_take]; omega) (fun x hx => HB.out x (List.mem_of_mem_take hx)))
      have hkn : (k : Int) < (n : Int) := by omega
      by_cases h0 : k = 0
      · subst h0
        have d0 : wr.cell? ad = some (.int .i64 l[0]) := d0
        have HW := Lib.hid (show (ByteArray.mk #[59] ++ ByteArray.mk (Rm.nmL i).toArray ++ ByteArray.mk #[61] ++ ByteArray.mk (Rm.nt l[0]).toArray).data.toList = Rm.nmb i (l.take (0 + 1)) by
          rw [HT.out]
          show _ = Rm.nmb i [l[0]]
          rw [Rm.nmb_one]
          simp [ByteArray.data_append])
        clear hc hN hx
        generalize ByteArray.mk (Rm.nt l[0]).toArray = t at *
        generalize ByteArray.mk (Rm.nmL i).toArray = p at *
        generalize l[0] = x at *
        have hp1 : (ByteArray.mk #[59] ++ p).size ≤ 11 := by rw [ByteArray.size_append]; show 1 + _ ≤ 11; omega
        have hp2 : (ByteArray.mk #[59] ++ p ++ ByteArray.mk #[61]).size ≤ 12 := by rw [ByteArray.size_append]; show _ + 1 ≤ 12; omega
        have u0 := after_cell d0
        go_wp2_with fail
        refine wp_region_after (by kernel_rfl) (by kernel_rfl) ?_
        repeat (go_big_quiet_step (first | (go_at_call 58; exact qafter (cP _)) | (go_at_call 22; exact qafter (cN _))))
        refine wpQuiet_nil ?_
        rintro _ ⟨⟨w6, hg6⟩, rfl⟩
        go_wp2
        go_roundg (n - (0 + 1))
        case measure => have := HG.out; omega
        case rel => exact ⟨1, _, by go_num, rfl, by omega, hg.trans hg6, by rw [Lib.size_eq, HW.out]; exact HZ.out, HW⟩
      · have hkb : ((k : Int) == 0) = false := by rw [beq_eq_false_iff_ne]; omega
        have HW := Lib.hid (show (s ++ ByteArray.mk #[44] ++ ByteArray.mk (Rm.nt l[k]).toArray).data.toList = Rm.nmb i (l.take (k + 1)) by
          rw [HT.out, Rm.nmb_app i _ _ (by intro e; have := congrArg List.length e; rw [List.length_take, List.length_nil] at this; omega), ← HS.out]
          simp [ByteArray.data_append])
        clear hc hN hx h0
        generalize ByteArray.mk (Rm.nt l[k]).toArray = t at *
        generalize l[k] = x at *
        have hp1 : (s ++ ByteArray.mk #[44]).size ≤ 6013 := by rw [ByteArray.size_append]; show _ + 1 ≤ 6013; omega
        go_wp2_with (go_at_call 22; refine (cN _).mono ?_; rintro e w1 ⟨rfl, hg1⟩)
        go_roundg (n - (k + 1))
        case measure => have := HG.out; omega
        case rel => exact ⟨k + 1, _, by go_num, rfl, by omega, hg.trans hg1, by rw [Lib.size_eq, HW.out]; exact HZ.out, HW⟩
    · obtain rfl : k = n := by have := HG.out; omega
      have hS := HS.out
      rw [List.take_of_length_le (by rw [HL.out]; exact Nat.le_refl _)] at hS
      have HS2 := Lib.hid hS
      go_wp2
      go_ret
      exact ⟨mkstr (by rw [← HS2.out, Lib.mk_data]), hg⟩
end Go.Proofs.YtleeklcpbflfhaaGreatDoor
