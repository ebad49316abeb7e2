/- What value.Duration returns; awake. -/
import Derived.Test.YtafpdiikhhikeaaGreatDoorClkDig
import Derived.Test.YtafpdiikhhikeaaGreatDoorVt
namespace Go.Proofs.YtafpdiikhhikeaaGreatDoor
open Go.RowKit

/- the table is there, and the world has grown alone -/
def TG (w w' : World) : Prop := Tab w' ∧ Gr w w'
theorem TG.go {w w1 w2 : World} (h : TG w w1) (hb : Gr w1 w2) : TG w w2 := ⟨h.1.keep hb, h.2.trans hb⟩
theorem TG.start {w : World} (h : Tab w) : TG w w := ⟨h, Gr.refl _⟩
theorem TG.drewN {w w1 : World} (h : TG w w1) (n : Nat) : TG w (w1.drewN n) := h.go ((Gr.refl _).drewN n)
theorem TG.drew {w w1 : World} (h : TG w w1) : TG w w1.drew := h.go (Gr.refl _).drew
theorem str_mk {a : ByteArray} {l : List UInt8} (h : a.data.toList = l) : a = ⟨l.toArray⟩ := by rw [← h, Lib.mk_data]
theorem fmt_any (n : Int) (w : World) (ht : Tab w) (h0 : 0 ≤ n) (h1 : n ≤ 9223372036854775807) :
    Calls Tryz.prog 58 #[.int .i64 n, .int .i64 10] w fun e w' => e = .returned (.string ⟨(Va.de n).toArray⟩) ∧ Gr w w' := by
  refine (Tryz.strconv_FormatInt_10 n (by omega) h1 w ht).mono ?_
  rintro e w' ⟨rfl, k, os, rfl⟩
  refine ⟨?_, Gr.grow _ _ _⟩
  rw [Lib.itoa, if_neg (by omega)]
  rfl
set_option maxHeartbeats 1000000 in
theorem part_any (n : Int) (u : ByteArray) (w : World) (ht : Tab w) (h0 : 0 ≤ n) (h1 : n < 10000000000) (hu : u.size ≤ 10) :
    Calls Tryz.prog 38 #[.int .i64 n, .string u] w fun e w' => e = .returned (.string ⟨(Va.de n ++ u.data.toList).toArray⟩) ∧ Gr w w' := by
  have hl : (Va.de n).length ≤ 10 := (Va.num_iff.1 (Va.de_num h0 h1).1).2.1
  have hz : (ByteArray.mk (Va.de n).toArray).size ≤ 10 := by rw [Lib.size_eq]; exact hl
  have cF := fmt_any n w ht h0 (by omega)
  generalize ed : Va.de n = d at *
  have ED := Lib.hid ed
  clear ed
  go_enter Tryz.func38, Tryz.ntmps38
  go_wp2_with (go_at_call 58; refine cF.mono ?_; rintro e w1 ⟨rfl, hb⟩)
  go_ret
  exact ⟨mkstr (str_mk (by rw [ByteArray.data_append, Array.toList_append])), hb⟩

namespace Va
theorem de_len {n : Int} (h0 : 0 ≤ n) (h1 : n < 10000000000) : (de n).length ≤ 10 := (num_iff.1 (de_num h0 h1).1).2.1
theorem hmx_len {h m x : Int} (h0 : 0 ≤ h) (h1 : h < 24) (m0 : 0 ≤ m) (m1 : m < 60) (x0 : 0 ≤ x) (x1 : x < 60) : (hmx h m x).length ≤ 33 := by
  have := de_len h0 (by omega : h < 10000000000)
  have := de_len m0 (by omega : m < 10000000000)
  have := de_len x0 (by omega : x < 10000000000)
  unfold hmx
  simp only [List.length_append]
  split <;> split <;> split <;> simp <;> omega
theorem per_len {n : Int} (h0 : 0 ≤ n) (h1 : n ≤ 10000000000) : (per n).length ≤ 45 := by
  have := de_len (n := n / 604800) (by omega) (by omega)
  have := de_len (n := n / 86400) (by omega) (by omega)
  have := hmx_len (h := n % 86400 / 3600) (m := n % 3600 / 60) (x := n % 60) (by omega) (by omega) (by omega) (by omega) (by omega) (by omega)
  unfold per
  split
  · simp
  · split
    · simp; omega
    · simp only [List.length_append]
      split <;> split <;> simp <;> omega
end Va
set_option maxHeartbeats 2000000 in
theorem hours_any (n : Int) (w : World) (ht : Tab w) (h0 : 0 ≤ n) (h1 : n < 86400) :
    Calls Tryz.prog 39 #[.int .i64 n] w fun e w' => e = .returned (.string ⟨(Va.hmx (n / 3600) (n % 3600 / 60) (n % 60)).toArray⟩) ∧ Gr w w' := by
  have hT := TG.start ht
  clear ht
  have l1 := Va.de_len (n := n / 3600) (by omega) (by omega)
  have l2 := Va.de_len (n := n % 3600 / 60) (by omega) (by omega)
  have l3 := Va.de_len (n := n % 60) (by omega) (by omega)
  have cP := fun (k : Int) (c : UInt8) (w' : World) (hk : 0 ≤ k ∧ k < 86400) (h : TG w w') => part_any k ⟨#[c]⟩ w' h.1 hk.1 (by omega) (by show 1 ≤ 10; omega)
  by_cases a1 : 3600 ≤ n
  · have b1 : 0 < n / 3600 := by omega
    by_cases a3 : 0 < n % 60
    · have e : Va.hmx (n / 3600) (n % 3600 / 60) (n % 60) = Va.de (n / 3600) ++ [72] ++ (Va.de (n % 3600 / 60) ++ [77]) ++ (Va.de (n % 60) ++ [83]) := by
        unfold Va.hmx; rw [if_pos b1, if_pos (.inr ⟨b1, a3⟩), if_pos a3]
      have E := Lib.hid e
      clear e
      by_cases a2 : 0 < n % 3600 / 60
      · go_enter Tryz.func39, Tryz.ntmps39
        go_wp2_with (go_at_call 38; refine (cP _ _ _ (by omega) hT).mono ?_; rintro e w1 ⟨rfl, hb⟩; replace hT := hT.go hb; clear hb)
        go_ret
        exact ⟨mkstr (str_mk (by rw [E.out]; simp [ByteArray.data_append])), hT.2⟩
      · go_enter Tryz.func39, Tryz.ntmps39
        go_wp2_with (go_at_call 38; refine (cP _ _ _ (by omega) hT).mono ?_; rintro e w1 ⟨rfl, hb⟩; replace hT := hT.go hb; clear hb)
        go_ret
        exact ⟨mkstr (str_mk (by rw [E.out]; simp [ByteArray.data_append])), hT.2⟩
    · by_cases a2 : 0 < n % 3600 / 60
      · have e : Va.hmx (n / 3600) (n % 3600 / 60) (n % 60) = Va.de (n / 3600) ++ [72] ++ (Va.de (n % 3600 / 60) ++ [77]) := by
          unfold Va.hmx; rw [if_pos b1, if_pos (.inl a2), if_neg a3, List.append_nil]
        have E := Lib.hid e
        clear e
        go_enter Tryz.func39, Tryz.ntmps39
        go_wp2_with (go_at_call 38; refine (cP _ _ _ (by omega) hT).mono ?_; rintro e w1 ⟨rfl, hb⟩; replace hT := hT.go hb; clear hb)
        go_ret
        exact ⟨mkstr (str_mk (by rw [E.out]; simp [ByteArray.data_append])), hT.2⟩
      · have e : Va.hmx (n / 3600) (n % 3600 / 60) (n % 60) = Va.de (n / 3600) ++ [72] := by
          unfold Va.hmx; rw [if_pos b1, if_neg (by omega), if_neg a3, List.append_nil, List.append_nil]
        have E := Lib.hid e
        clear e
        go_enter Tryz.func39, Tryz.ntmps39
        go_wp2_with (go_at_call 38; refine (cP _ _ _ (by omega) hT).mono ?_; rintro e w1 ⟨rfl, hb⟩; replace hT := hT.go hb; clear hb)
        go_ret
        exact ⟨mkstr (str_mk (by rw [E.out]; simp [ByteArray.data_append])), hT.2⟩
  · have b1 : ¬ 0 < n / 3600 := by omega
    by_cases a3 : 0 < n % 60
    · by_cases a2 : 0 < n % 3600 / 60
      · have e : Va.hmx (n / 3600) (n % 3600 / 60) (n % 60) = (Va.de (n % 3600 / 60) ++ [77]) ++ (Va.de (n % 60) ++ [83]) := by
          unfold Va.hmx; rw [if_neg b1, if_pos (.inl a2), if_pos a3, List.nil_append]
        have E := Lib.hid e
        clear e b1
        go_enter Tryz.func39, Tryz.ntmps39
        go_wp2_with (go_at_call 38; refine (cP _ _ _ (by omega) hT).mono ?_; rintro e w1 ⟨rfl, hb⟩; replace hT := hT.go hb; clear hb)
        go_ret
        exact ⟨mkstr (str_mk (by rw [E.out]; simp [ByteArray.data_append])), hT.2⟩
      · have e : Va.hmx (n / 3600) (n % 3600 / 60) (n % 60) = (Va.de (n % 60) ++ [83]) := by
          unfold Va.hmx; rw [if_neg b1, if_neg (by omega), if_pos a3, List.nil_append, List.nil_append]
        have E := Lib.hid e
        clear e b1
        go_enter Tryz.func39, Tryz.ntmps39
        go_wp2_with (go_at_call 38; refine (cP _ _ _ (by omega) hT).mono ?_; rintro e w1 ⟨rfl, hb⟩; replace hT := hT.go hb; clear hb)
        go_ret
        exact ⟨mkstr (str_mk (by rw [E.out]; simp [ByteArray.data_append])), hT.2⟩
    · by_cases a2 : 0 < n % 3600 / 60
      · have e : Va.hmx (n / 3600) (n % 3600 / 60) (n % 60) = (Va.de (n % 3600 / 60) ++ [77]) := by
          unfold Va.hmx; rw [if_neg b1, if_pos (.inl a2), if_neg a3, List.nil_append, List.append_nil]
        have E := Lib.hid e
        clear e b1
        go_enter Tryz.func39, Tryz.ntmps39
        go_wp2_with (go_at_call 38; refine (cP _ _ _ (by omega) hT).mono ?_; rintro e w1 ⟨rfl, hb⟩; replace hT := hT.go hb; clear hb)
        go_ret
        exact ⟨mkstr (str_mk (by rw [E.out]; simp [ByteArray.data_append])), hT.2⟩
      · have e : Va.hmx (n / 3600) (n % 3600 / 60) (n % 60) = [] := by
          unfold Va.hmx; rw [if_neg b1, if_neg (by omega), if_neg a3]; rfl
        have E := Lib.hid e
        clear e b1
        go_enter Tryz.func39, Tryz.ntmps39
        go_wp2
        go_ret
        exact ⟨mkstr (str_mk (by rw [E.out])), hT.2⟩
set_option maxHeartbeats 2000000 in
theorem period_any (n : Int) (w : World) (ht : Tab w) (h0 : 0 ≤ n) (h1 : n ≤ 10000000000) :
    Calls Tryz.prog 24 #[.int .i64 n] w fun e w' => e = .returned (.string ⟨(Va.per n).toArray⟩) ∧ Gr w w' := by
  have hT := TG.start ht
  clear ht
  have l1 := Va.de_len (n := n / 604800) (by omega) (by omega)
  have l2 := Va.de_len (n := n / 86400) (by omega) (by omega)
  have l3 := Va.hmx_len (h := n % 86400 / 3600) (m := n % 3600 / 60) (x := n % 60) (by omega) (by omega) (by omega) (by omega) (by omega) (by omega)
  have cP := fun (k : Int) (c : UInt8) (w' : World) (hk : 0 ≤ k ∧ k ≤ 116000) (h : TG w w') => part_any k ⟨#[c]⟩ w' h.1 hk.1 (by omega) (by show 1 ≤ 10; omega)
  have cH := fun (k : Int) (w' : World) (hk : 0 ≤ k ∧ k < 86400) (h : TG w w') => hours_any k w' h.1 hk.1 hk.2
  have q2 : n % 86400 % 3600 = n % 3600 := by omega
  have q3 : n % 86400 % 60 = n % 60 := by omega
  by_cases a0 : n = 0
  · have e : Va.per n = [48, 68] := by unfold Va.per; rw [if_pos a0]
    have E := Lib.hid e
    have b0 : (n == 0) = true := by simpa using a0
    clear e
    go_enter Tryz.func24, Tryz.ntmps24
    go_wp2
    go_ret
    exact ⟨mkstr (str_mk (by rfl)), hT.2⟩
  have b0 : (n == 0) = false := by simpa using a0
  by_cases a1 : n % 604800 = 0
  · have e : Va.per n = Va.de (n / 604800) ++ [87] := by unfold Va.per; rw [if_neg a0, if_pos a1]
    have E := Lib.hid e
    have b1 : (n % 604800 == 0) = true := by simpa using a1
    clear e
    go_enter Tryz.func24, Tryz.ntmps24
    go_wp2_with (first | (go_at_call 38; refine (cP _ _ _ (by omega) hT).mono ?_; rintro e w1 ⟨rfl, hb⟩; replace hT := hT.go hb; clear hb) | (go_at_call 39; refine (cH _ _ (by omega) hT).mono ?_; rintro e w1 ⟨rfl, hb⟩; replace hT := hT.go hb; clear hb))
    go_ret
    exact ⟨mkstr (str_mk (by rw [E.out])), hT.2⟩
  have b1 : (n % 604800 == 0) = false := by simpa using a1
  by_cases a2 : 86400 ≤ n
  · by_cases a3 : 0 < n % 86400
    · have e : Va.per n = Va.de (n / 86400) ++ [68] ++ 84 :: Va.hmx (n % 86400 / 3600) (n % 3600 / 60) (n % 60) := by unfold Va.per; rw [if_neg a0, if_neg a1, if_pos a2, if_pos a3]
      have E := Lib.hid e
      clear e
      go_enter Tryz.func24, Tryz.ntmps24
      go_wp2_with (first | (go_at_call 38; refine (cP _ _ _ (by omega) hT).mono ?_; rintro e w1 ⟨rfl, hb⟩; replace hT := hT.go hb; clear hb) | (go_at_call 39; refine (cH _ _ (by omega) hT).mono ?_; rintro e w1 ⟨rfl, hb⟩; replace hT := hT.go hb; clear hb))
      go_ret
      exact ⟨mkstr (str_mk (by rw [E.out, ← q2, ← q3]; simp [ByteArray.data_append])), hT.2⟩
    · have e : Va.per n = Va.de (n / 86400) ++ [68] := by unfold Va.per; rw [if_neg a0, if_neg a1, if_pos a2, if_neg a3, List.append_nil]
      have E := Lib.hid e
      clear e
      go_enter Tryz.func24, Tryz.ntmps24
      go_wp2_with (first | (go_at_call 38; refine (cP _ _ _ (by omega) hT).mono ?_; rintro e w1 ⟨rfl, hb⟩; replace hT := hT.go hb; clear hb) | (go_at_call 39; refine (cH _ _ (by omega) hT).mono ?_; rintro e w1 ⟨rfl, hb⟩; replace hT := hT.go hb; clear hb))
      go_ret
      exact ⟨mkstr (str_mk (by rw [E.out])), hT.2⟩
  · have a3 : 0 < n % 86400 := by omega
    have e : Va.per n = 84 :: Va.hmx (n % 86400 / 3600) (n % 3600 / 60) (n % 60) := by unfold Va.per; rw [if_neg a0, if_neg a1, if_neg a2, if_pos a3, List.nil_append]
    have E := Lib.hid e
    clear e
    go_enter Tryz.func24, Tryz.ntmps24
    go_wp2_with (first | (go_at_call 38; refine (cP _ _ _ (by omega) hT).mono ?_; rintro e w1 ⟨rfl, hb⟩; replace hT := hT.go hb; clear hb) | (go_at_call 39; refine (cH _ _ (by omega) hT).mono ?_; rintro e w1 ⟨rfl, hb⟩; replace hT := hT.go hb; clear hb))
    go_ret
    exact ⟨mkstr (str_mk (by rw [E.out, ← q2, ← q3]; simp [ByteArray.data_append])), hT.2⟩
set_option maxHeartbeats 1000000 in
theorem duration_yes (n : Int) (w : World) (ht : Tab w) (h : Va.durB n = true) :
    Calls Tryz.prog 10 #[.int .i64 n] w fun e w' => e = .returned (.tuple #[.string ⟨(Va.dur n).toArray⟩, .int .i64 0]) ∧ Gr w w' := by
  obtain ⟨h1, h2⟩ := Va.durB_iff.1 h
  clear h
  have b1 : decide (n < -10000000000) = false := by simp; omega
  have b2 : decide (10000000000 < n) = false := by simp; omega
  by_cases a : n < 0
  · have e : Va.dur n = 45 :: 80 :: Va.per (-n) := by unfold Va.dur; rw [if_pos a]
    have E := Lib.hid e
    have hl := Va.per_len (n := -n) (by omega) (by omega)
    have cP := period_any (-n) w ht (by omega) (by omega)
    clear e
    generalize Va.per (-n) = p at *
    go_enter Tryz.func10, Tryz.ntmps10
    go_wp2_with (go_at_call 24; refine cP.mono ?_; rintro e w1 ⟨rfl, hb⟩)
    go_ret2
    exact ⟨by rw [E.out, str_mk (l := 45 :: 80 :: p) (a := ⟨#[45, 80]⟩ ++ ⟨p.toArray⟩) (by simp [ByteArray.data_append])] <;> rfl, hb⟩
  · have e : Va.dur n = 80 :: Va.per n := by unfold Va.dur; rw [if_neg a]
    have E := Lib.hid e
    have hl := Va.per_len (n := n) (by omega) (by omega)
    have cP := period_any n w ht (by omega) (by omega)
    clear e
    generalize Va.per n = p at *
    go_enter Tryz.func10, Tryz.ntmps10
    go_wp2_with (go_at_call 24; refine cP.mono ?_; rintro e w1 ⟨rfl, hb⟩)
    go_ret2
    exact ⟨by rw [E.out, str_mk (l := 80 :: p) (a := ⟨#[80]⟩ ++ ⟨p.toArray⟩) (by simp [ByteArray.data_append])] <;> rfl, hb⟩
set_option maxHeartbeats 1000000 in
theorem duration_no (n : Int) (w : World) (h : Va.durB n = false) :
    Calls Tryz.prog 10 #[.int .i64 n] w fun e w' => e = .returned (.tuple #[.string ⟨#[]⟩, .int .i64 7]) ∧ Gr w w' := by
  have hn : ¬ (-10000000000 ≤ n ∧ n ≤ 10000000000) := by rw [← Va.durB_iff, h]; simp
  clear h
  by_cases b1 : n < -10000000000
  · clear hn
    go_enter Tryz.func10, Tryz.ntmps10
    go_wp2
    go_ret2
    exact ⟨rfl, Gr.refl _⟩
  · have b2 : 10000000000 < n := by omega
    have b1 : decide (n < -10000000000) = false := by simp; omega
    clear hn
    go_enter Tryz.func10, Tryz.ntmps10
    go_wp2
    go_ret2
    exact ⟨rfl, Gr.refl _⟩
theorem dur_awake : Va.dur 5400 = [80, 84, 49, 72, 51, 48, 77] := by decide +kernel
set_option maxHeartbeats 400000 in
theorem awake12_any (w : World) (ht : Tab w) :
    Calls Tryz.prog 4 #[] w fun e w' => e = .returned (.bool true) ∧ Gr w w' := by
  have cD := duration_yes 5400 w ht (by decide)
  rw [dur_awake] at cD
  go_enter Tryz.func4, Tryz.ntmps4
  go_wp2_with (go_at_call 10; refine cD.mono ?_; rintro e w1 ⟨rfl, hb⟩)
  go_ret
  exact ⟨rfl, hb⟩
end Go.Proofs.YtafpdiikhhikeaaGreatDoor
