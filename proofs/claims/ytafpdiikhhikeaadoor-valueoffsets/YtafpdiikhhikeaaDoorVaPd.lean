/- What value.parsePeriod, ParseDuration and Number return. -/
import Derived.Test.YtafpdiikhhikeaaDoorVaPar
namespace Go.Proofs.YtafpdiikhhikeaaDoor
open Go.RowKit

/- strings.CutPrefix and TrimPrefix, of one byte -/
def cpV (l : List UInt8) (c : UInt8) : Value := .tuple #[.string ⟨(Lib.trimPrefix l [c]).toArray⟩, .bool (Lib.hasPrefix l [c])]
theorem cp_any (s : ByteArray) (c : UInt8) (w : World) : Calls Tryd.prog 30 #[.string s, .string ⟨#[c]⟩] w fun e w' => e = .returned (cpV s.data.toList c) ∧ w = w' := by
  refine (Tryd.strings_CutPrefix s ⟨#[c]⟩ w).mono ?_
  rintro e w' ⟨rfl, rfl⟩
  exact ⟨rfl, rfl⟩
theorem cp_t {l : List UInt8} {c : UInt8} (h : l.head? = some c) : cpV l c = .tuple #[.string ⟨l.tail.toArray⟩, .bool true] := by
  unfold cpV
  rw [Va.tp1, Va.hp1, h]
  simp
theorem cp_f {s : ByteArray} {c : UInt8} (h : ¬ s.data.toList.head? = some c) : cpV s.data.toList c = .tuple #[.string s, .bool false] := by
  have h1 : (s.data.toList.head? == some c) = false := by rw [beq_eq_false_iff_ne]; exact h
  unfold cpV
  rw [Va.tp1, Va.hp1, h1]
  rw [if_neg (by simp), Lib.mk_data]

set_option maxRecDepth 8000 in
set_option maxHeartbeats 4000000 in
theorem pperiod_any (s : ByteArray) (w : World) (hl : s.size ≤ 1000000) :
    Calls Tryd.prog 32 #[.string s] w fun e w' => ∃ v : Int, e = .returned (.tuple #[.int .i64 v, .bool (Va.pp s.data.toList).isSome]) ∧ (∀ n, Va.pp s.data.toList = some n → v = n) ∧ 0 ≤ v ∧ v ≤ 10000000000000000 ∧ Gr w w' := by
  have hz : s.data.toList.length ≤ 1000000 := by rw [← Lib.size_eq]; exact hl
  by_cases hT : s.data.toList.head? = some 84
  · have E : Va.pp s.data.toList = Va.hr s.data.toList.tail := by unfold Va.pp; rw [if_pos hT]
    rw [E]
    have k1 := Lib.hid (cp_t hT)
    have cH := phours_any ⟨s.data.toList.tail.toArray⟩ w (by rw [Lib.size_eq]; show s.data.toList.tail.length ≤ _; rw [List.length_tail]; omega)
    clear E hT
    go_enter Tryd.func32, Tryd.ntmps32
    go_wp2_with (first | (go_at_call 30; refine (cp_any _ _ _).mono ?_; rintro e w' ⟨rfl, rfl⟩; rw [k1.out]) | (go_at_call 51; refine cH.mono ?_; rintro e w1 ⟨v, rfl, hv, v0, v1, hg⟩))
    go_ret2
    exact ⟨v, rfl, hv, v0, by omega, hg⟩
  have k1 := Lib.hid (cp_f hT)
  have E0 : Va.pp s.data.toList = Va.pe (Va.cut s.data.toList) := by unfold Va.pp; rw [if_neg hT]
  rcases h1 : Va.cut s.data.toList with _ | ⟨n, d, r⟩
  · have E : Va.pp s.data.toList = none := by rw [E0, h1]; rfl
    rw [E]
    have c1 := Lib.hid (cut_no (s := s) h1)
    clear E hT E0 h1
    go_enter Tryd.func32, Tryd.ntmps32
    go_wp2_with (first | (go_at_call 30; refine (cp_any _ _ _).mono ?_; rintro e w' ⟨rfl, rfl⟩; rw [k1.out]) | (go_at_call 52; refine (cutpart_any _ _ hl).mono ?_; rintro e w1 ⟨rfl, hg⟩; rw [c1.out]))
    go_ret2
    exact ⟨_, rfl, fun n hn => (by cases hn), by omega, by omega, hg⟩
  have c1 := Lib.hid (cut_yes (s := s) h1)
  have z1 := cut_size h1 hz
  have b1 := (Va.cut_lt h1).1
  by_cases u1 : d = 87
  · subst u1
    by_cases e1 : r = []
    · subst e1
      have E : Va.pp s.data.toList = some (n * 604800) := by rw [E0, h1]; simp [Va.pe]
      rw [E]
      have f1 := emn_t
      clear E hT E0 h1
      go_enter Tryd.func32, Tryd.ntmps32
      go_wp2_with (first | (go_at_call 30; refine (cp_any _ _ _).mono ?_; rintro e w' ⟨rfl, rfl⟩; rw [k1.out]) | (go_at_call 52; refine (cutpart_any _ _ hl).mono ?_; rintro e w1 ⟨rfl, hg⟩; rw [c1.out]))
      go_ret2
      exact ⟨_, rfl, fun n hn => by injection hn with hn; omega, by omega, by omega, hg⟩
    · have E : Va.pp s.data.toList = none := by rw [E0, h1]; simp [Va.pe, e1]
      rw [E]
      have f1 := emn_g e1
      clear E hT E0 h1
      go_enter Tryd.func32, Tryd.ntmps32
      go_wp2_with (first | (go_at_call 30; refine (cp_any _ _ _).mono ?_; rintro e w' ⟨rfl, rfl⟩; rw [k1.out]) | (go_at_call 52; refine (cutpart_any _ _ hl).mono ?_; rintro e w1 ⟨rfl, hg⟩; rw [c1.out]))
      go_ret2
      exact ⟨_, rfl, fun n hn => (by cases hn), by omega, by omega, hg⟩
  have v1 : ((d.toNat : Int) == 87) = false := bf 87 u1
  by_cases u2 : d = 68
  · subst u2
    by_cases e1 : r = []
    · subst e1
      have E : Va.pp s.data.toList = some (n * 86400) := by rw [E0, h1]; simp [Va.pe]
      rw [E]
      have f1 := emn_t
      clear E hT E0 h1
      go_enter Tryd.func32, Tryd.ntmps32
      go_wp2_with (first | (go_at_call 30; refine (cp_any _ _ _).mono ?_; rintro e w' ⟨rfl, rfl⟩; rw [k1.out]) | (go_at_call 52; refine (cutpart_any _ _ hl).mono ?_; rintro e w1 ⟨rfl, hg⟩; rw [c1.out]))
      go_ret2
      exact ⟨_, rfl, fun n hn => by injection hn with hn; omega, by omega, by omega, hg⟩
    have f1 := emn_g e1
    by_cases hr : r.head? = some 84
    · have E : Va.pp s.data.toList = (Va.hr r.tail).map (n * 86400 + ·) := by rw [E0, h1]; simp [Va.pe, e1, hr]
      rw [E]
      have k2 := Lib.hid (cp_t hr)
      have cH := fun w => phours_any ⟨r.tail.toArray⟩ w (by rw [Lib.size_eq]; show r.tail.length ≤ _; rw [List.length_tail]; have : r.length ≤ 1000000 := by rw [Lib.size_eq] at z1; exact z1
                                                            omega)
      clear E hT E0 h1
      go_enter Tryd.func32, Tryd.ntmps32
      go_wp2_with (first | (go_at_call 30; refine (cp_any _ _ _).mono ?_; rintro e w' ⟨rfl, rfl⟩; (first | rw [k1.out] | rw [k2.out])) | (go_at_call 52; refine (cutpart_any _ _ hl).mono ?_; rintro e w1 ⟨rfl, hg⟩; rw [c1.out]) | (go_at_call 51; refine (cH _).mono ?_; rintro e w2 ⟨v, rfl, hv, v0, v2, hg2⟩))
      go_ret2
      refine ⟨_, by simp [Option.isSome_map]; rfl, fun m hm => ?_, by omega, by omega, hg.trans hg2⟩
      rw [Option.map_eq_some_iff] at hm
      obtain ⟨k, hk, e⟩ := hm
      have := hv k hk
      omega
    · have E : Va.pp s.data.toList = none := by rw [E0, h1]; simp [Va.pe, e1, hr]
      rw [E]
      have k2 := Lib.hid (cp_f (s := ⟨r.toArray⟩) hr)
      have cH := fun w => phours_any ⟨r.toArray⟩ w z1
      clear E hT E0 h1
      go_enter Tryd.func32, Tryd.ntmps32
      go_wp2_with (first | (go_at_call 30; refine (cp_any _ _ _).mono ?_; rintro e w' ⟨rfl, rfl⟩; (first | rw [k1.out] | rw [k2.out])) | (go_at_call 52; refine (cutpart_any _ _ hl).mono ?_; rintro e w1 ⟨rfl, hg⟩; rw [c1.out]) | (go_at_call 51; refine (cH _).mono ?_; rintro e w2 ⟨v, rfl, hv, v0, v2, hg2⟩))
      go_ret2
      exact ⟨_, rfl, fun n hn => (by cases hn), by omega, by omega, hg.trans hg2⟩
  · have v2 : ((d.toNat : Int) == 68) = false := bf 68 u2
    have E : Va.pp s.data.toList = none := by rw [E0, h1]; simp [Va.pe, u1, u2]
    rw [E]
    clear E hT E0 h1
    go_enter Tryd.func32, Tryd.ntmps32
    go_wp2_with (first | (go_at_call 30; refine (cp_any _ _ _).mono ?_; rintro e w' ⟨rfl, rfl⟩; rw [k1.out]) | (go_at_call 52; refine (cutpart_any _ _ hl).mono ?_; rintro e w1 ⟨rfl, hg⟩; rw [c1.out]))
    go_ret2
    exact ⟨_, rfl, fun n hn => (by cases hn), by omega, by omega, hg⟩

namespace Va
def opV (o : Option Int) : Value := match o with
  | some n => .tuple #[.int .i64 n, .int .i64 0]
  | none => .tuple #[.int .i64 0, .int .i64 7]
theorem un_len (l : List UInt8) : (un l).length ≤ l.length := by
  unfold un
  split
  · simp
  · split <;> simp
end Va
theorem tpf_any (s : ByteArray) (w : World) (h : Va.neg s.data.toList = false) : Calls Tryd.prog 31 #[.string s, .string ⟨#[43]⟩] w fun e w' => e = .returned (.string ⟨(Va.un s.data.toList).toArray⟩) ∧ w = w' := by
  refine (Tryd.strings_TrimPrefix s ⟨#[43]⟩ w).mono ?_
  rintro e w' ⟨rfl, rfl⟩
  refine ⟨?_, rfl⟩
  unfold Va.un
  rw [if_neg (by simp [h])]
  show Ending.returned (.string ⟨(Lib.trimPrefix s.data.toList [43]).toArray⟩) = _
  rw [Va.tp1]
theorem kf (s : ByteArray) (u : List UInt8) (b : Bool) (hb : b = false) {x : Value} (h : x = .tuple #[.string (if b then ⟨u.toArray⟩ else s), .bool b]) : x = .tuple #[.string s, .bool false] := by
  rw [h, hb]; rfl
theorem kt (s : ByteArray) (u : List UInt8) (b : Bool) (hb : b = true) {x : Value} (h : x = .tuple #[.string (if b then ⟨u.toArray⟩ else s), .bool b]) : x = .tuple #[.string ⟨u.toArray⟩, .bool true] := by
  rw [h, hb]; rfl
set_option maxRecDepth 8000 in
set_option maxHeartbeats 4000000 in
theorem pduration_any (s : ByteArray) (w : World) (hl : s.size ≤ 1000000) :
    Calls Tryd.prog 13 #[.string s] w fun e w' => e = .returned (Va.opV (Va.pd s.data.toList)) ∧ Gr w w' := by
  have hz : s.data.toList.length ≤ 1000000 := by rw [← Lib.size_eq]; exact hl
  have hul := Va.un_len s.data.toList
  have k1 : cpV s.data.toList 45 = .tuple #[.string (if Va.neg s.data.toList then ⟨(Va.un s.data.toList).toArray⟩ else s), .bool (Va.neg s.data.toList)] := by
    by_cases hn : s.data.toList.head? = some 45
    · have h1 : Va.neg s.data.toList = true := by unfold Va.neg; rw [hn]; rfl
      have h2 : Va.un s.data.toList = s.data.toList.tail := by unfold Va.un; rw [if_pos h1]
      rw [cp_t hn, h1, h2]; rfl
    · have h1 : Va.neg s.data.toList = false := by unfold Va.neg; rw [beq_eq_false_iff_ne]; exact hn
      rw [cp_f hn, h1]; rfl
  have cT := fun h => tpf_any s w h
  have ep : Va.pd s.data.toList = if (Va.un s.data.toList).head? = some 80 then (Va.top (Va.pp (Va.un s.data.toList).tail)).map (fun n => Va.sg (Va.neg s.data.toList) (n : Int)) else none := rfl
  rw [ep]
  clear ep
  have K1 := Lib.hid k1
  clear k1
  generalize hu : Va.un s.data.toList = u at *
  clear hu
  by_cases hp : u.head? = some 80
  · have K2 := Lib.hid (cp_t hp)
    rw [if_pos hp]
    have zt : (ByteArray.mk u.tail.toArray).size ≤ 1000000 := by rw [Lib.size_eq]; show u.tail.length ≤ _; rw [List.length_tail]; omega
    have cP := pperiod_any ⟨u.tail.toArray⟩ w zt
    have eq1 : Va.pp (ByteArray.mk u.tail.toArray).data.toList = Va.pp u.tail := rfl
    rw [eq1] at cP
    clear hp eq1
    rcases h1 : Va.pp u.tail with _ | m
    · rw [h1] at cP
      rcases hn : Va.neg s.data.toList
      · rw [hn] at cT
        have K1 := Lib.hid (kf s u _ hn K1.out)
        have cU := cT rfl
        clear cT
        go_enter Tryd.func13, Tryd.ntmps13
        go_wp2_with (first | (go_at_call 30; refine (cp_any _ _ _).mono ?_; rintro e w' ⟨rfl, rfl⟩; (first | rw [K1.out] | rw [K2.out])) | (go_at_call 31; refine cU.mono ?_; rintro e w' ⟨rfl, rfl⟩) | (go_at_call 32; refine cP.mono ?_; rintro e w1 ⟨v, rfl, hv, v0, v2, hg⟩))
        go_ret2
        exact ⟨rfl, hg⟩
      · have K1 := Lib.hid (kt s u _ hn K1.out)
        clear cT
        go_enter Tryd.func13, Tryd.ntmps13
        go_wp2_with (first | (go_at_call 30; refine (cp_any _ _ _).mono ?_; rintro e w' ⟨rfl, rfl⟩; (first | rw [K1.out] | rw [K2.out])) | (go_at_call 32; refine cP.mono ?_; rintro e w1 ⟨v, rfl, hv, v0, v2, hg⟩))
        go_ret2
        exact ⟨rfl, hg⟩
    · rw [h1] at cP
      by_cases hm : m ≤ 10000000000
      · have E : Va.top (some m) = some m := if_pos hm
        have cS := fun b w => signed_any (m : Int) b w (by omega) (by omega)
        rw [E]
        clear E h1
        rcases hn : Va.neg s.data.toList
        · rw [hn] at cT
          have K1 := Lib.hid (kf s u _ hn K1.out)
          have cU := cT rfl
          clear cT
          go_enter Tryd.func13, Tryd.ntmps13
          go_wp2_with (first | (go_at_call 30; refine (cp_any _ _ _).mono ?_; rintro e w' ⟨rfl, rfl⟩; (first | rw [K1.out] | rw [K2.out])) | (go_at_call 31; refine cU.mono ?_; rintro e w' ⟨rfl, rfl⟩) | (go_at_call 32; refine cP.mono ?_; rintro e w1 ⟨v, rfl, hv, v0, v2, hg⟩; obtain rfl := hv m rfl) | (go_at_call 33; refine (cS _ _).mono ?_; rintro e w' ⟨rfl, rfl⟩))
          go_ret2
          exact ⟨rfl, hg⟩
        · have K1 := Lib.hid (kt s u _ hn K1.out)
          clear cT
          go_enter Tryd.func13, Tryd.ntmps13
          go_wp2_with (first | (go_at_call 30; refine (cp_any _ _ _).mono ?_; rintro e w' ⟨rfl, rfl⟩; (first | rw [K1.out] | rw [K2.out])) | (go_at_call 32; refine cP.mono ?_; rintro e w1 ⟨v, rfl, hv, v0, v2, hg⟩; obtain rfl := hv m rfl) | (go_at_call 33; refine (cS _ _).mono ?_; rintro e w' ⟨rfl, rfl⟩))
          go_ret2
          exact ⟨rfl, hg⟩
      · have E : Va.top (some m) = none := if_neg hm
        rw [E]
        clear E h1
        rcases hn : Va.neg s.data.toList
        · rw [hn] at cT
          have K1 := Lib.hid (kf s u _ hn K1.out)
          have cU := cT rfl
          clear cT
          go_enter Tryd.func13, Tryd.ntmps13
          go_wp2_with (first | (go_at_call 30; refine (cp_any _ _ _).mono ?_; rintro e w' ⟨rfl, rfl⟩; (first | rw [K1.out] | rw [K2.out])) | (go_at_call 31; refine cU.mono ?_; rintro e w' ⟨rfl, rfl⟩) | (go_at_call 32; refine cP.mono ?_; rintro e w1 ⟨v, rfl, hv, v0, v2, hg⟩; obtain rfl := hv m rfl))
          go_ret2
          exact ⟨rfl, hg⟩
        · have K1 := Lib.hid (kt s u _ hn K1.out)
          clear cT
          go_enter Tryd.func13, Tryd.ntmps13
          go_wp2_with (first | (go_at_call 30; refine (cp_any _ _ _).mono ?_; rintro e w' ⟨rfl, rfl⟩; (first | rw [K1.out] | rw [K2.out])) | (go_at_call 32; refine cP.mono ?_; rintro e w1 ⟨v, rfl, hv, v0, v2, hg⟩; obtain rfl := hv m rfl))
          go_ret2
          exact ⟨rfl, hg⟩
  · have K2 := Lib.hid (cp_f (s := ⟨u.toArray⟩) hp)
    rw [if_neg hp]
    clear hp
    rcases hn : Va.neg s.data.toList
    · rw [hn] at cT
      have K1 := Lib.hid (kf s u _ hn K1.out)
      have cU := cT rfl
      clear cT
      go_enter Tryd.func13, Tryd.ntmps13
      go_wp2_with (first | (go_at_call 30; refine (cp_any _ _ _).mono ?_; rintro e w' ⟨rfl, rfl⟩; (first | rw [K1.out] | rw [K2.out])) | (go_at_call 31; refine cU.mono ?_; rintro e w' ⟨rfl, rfl⟩))
      go_ret2
      exact ⟨rfl, Gr.refl _⟩
    · have K1 := Lib.hid (kt s u _ hn K1.out)
      clear cT
      go_enter Tryd.func13, Tryd.ntmps13
      go_wp2_with (first | (go_at_call 30; refine (cp_any _ _ _).mono ?_; rintro e w' ⟨rfl, rfl⟩; (first | rw [K1.out] | rw [K2.out])))
      go_ret2
      exact ⟨rfl, Gr.refl _⟩
set_option maxHeartbeats 4000000 in
theorem number_parse (s : ByteArray) (w : World) :
    Calls Tryd.prog 19 #[.string s] w fun e w' => e = .returned (Va.opV (if Va.plB s.data.toList then some (Va.plV s.data.toList) else none)) ∧ w = w' := by
  have k1 : cpV s.data.toList 45 = .tuple #[.string ⟨(Va.bod s.data.toList).toArray⟩, .bool (Va.neg s.data.toList)] := by
    by_cases hn : s.data.toList.head? = some 45
    · have h1 : Va.neg s.data.toList = true := by unfold Va.neg; rw [hn]; rfl
      have h2 : Va.bod s.data.toList = s.data.toList.tail := by unfold Va.bod; rw [if_pos h1]
      rw [cp_t hn, h1, h2]
    · have h1 : Va.neg s.data.toList = false := by unfold Va.neg; rw [beq_eq_false_iff_ne]; exact hn
      rw [cp_f hn, h1, Va.bod_no h1, Lib.mk_data]
  have K1 := Lib.hid k1
  clear k1
  have cD := decimal_any ⟨(Va.bod s.data.toList).toArray⟩ 9 w (by omega)
  have e1 : (ByteArray.mk (Va.bod s.data.toList).toArray).data.toList = Va.bod s.data.toList := rfl
  rw [e1] at cD
  clear e1
  unfold Va.plB Va.plV
  generalize Va.neg s.data.toList = ng at *
  generalize Va.bod s.data.toList = b at *
  rcases hb : Va.num b 9
  · rw [hb] at cD
    go_enter Tryd.func19, Tryd.ntmps19
    go_wp2_with (first | (go_at_call 30; refine (cp_any _ _ _).mono ?_; rintro e w' ⟨rfl, rfl⟩; rw [K1.out]) | (go_at_call 37; refine cD.mono ?_; rintro e w' ⟨rfl, rfl⟩))
    go_ret2
    exact ⟨rfl, rfl⟩
  · have hv : decV b 9 = Txt.val b 0 := by unfold decV; rw [hb]; rfl
    have hlt := Va.val_lt10 hb
    rw [hb, hv] at cD
    have cS := signed_any (Txt.val b 0 : Int) ng w (by omega) (by omega)
    have hs : -1000000000 ≤ Va.sg ng (Txt.val b 0 : Int) ∧ Va.sg ng (Txt.val b 0 : Int) ≤ 1000000000 := by unfold Va.sg; split <;> omega
    generalize Va.sg ng (Txt.val b 0 : Int) = sv at *
    clear hv hb
    generalize Txt.val b 0 = bv at *
    go_enter Tryd.func19, Tryd.ntmps19
    go_wp2_with (first | (go_at_call 30; refine (cp_any _ _ _).mono ?_; rintro e w' ⟨rfl, rfl⟩; rw [K1.out]) | (go_at_call 37; refine cD.mono ?_; rintro e w' ⟨rfl, rfl⟩) | (go_at_call 33; refine cS.mono ?_; rintro e w' ⟨rfl, rfl⟩))
    go_ret2
    exact ⟨rfl, rfl⟩
end Go.Proofs.YtafpdiikhhikeaaDoor
