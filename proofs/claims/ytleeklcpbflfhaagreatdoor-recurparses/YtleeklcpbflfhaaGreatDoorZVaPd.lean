/- What value.parsePeriod, ParseDuration and Number return. -/
import Derived.Test.YtleeklcpbflfhaaGreatDoorZVaPar
namespace Go.Proofs.YtleeklcpbflfhaaGreatDoor
open Go.RowKit

/- strings.CutPrefix and TrimPrefix, of one byte -/
def cpV (l : List UInt8) (c : UInt8) : Value := .tuple #[.string ⟨(Lib.trimPrefix l [c]).toArray⟩, .bool (Lib.hasPrefix l [c])]
theorem cp_any (s : ByteArray) (c : UInt8) (w : World) : Calls Tryz.prog 140 #[.string s, .string ⟨#[c]⟩] w fun e w' => e = .returned (cpV s.data.toList c) ∧ w = w' := by
  refine (Tryz.strings_CutPrefix s ⟨#[c]⟩ w).mono ?_
  rintro e w' ⟨rfl, rfl⟩
  exact ⟨rfl, rfl⟩
theorem cp_t {l : List UInt8} {c : UInt8} (h : l.head? = some c) : cpV l c = .tuple #[.string ⟨l.tail.toArray⟩, .bool true] := by
  unfold cpV
  rw [Va.tp1, Va.hp1, h]
  simp
theorem cp_f {s : ByteArray} {c : UInt8} (h : ¬ s.data.toList.head? = some c) : cpV s.data.toList c = .tuple #[.string s, .bool false] := by
  have h1 : (s.data.toList.head? == some c) = false := by rw [beq_eq_false_iff_ne]; exact h
  unfold cpV
  rw [Va.tp1, Va.hp1, h1]
  rw [if_neg (by simp), Lib.mk_data]

namespace Va
def opV (o : Option Int) : Value := match o with
  | some n => .tuple #[.int .i64 n, .int .i64 0]
  | none => .tuple #[.int .i64 0, .int .i64 7]
theorem un_len (l : List UInt8) : (un l).length ≤ l.length := by
  unfold un
  split
  · simp
  · split <;> simp
end Va
theorem tpf_any (s : ByteArray) (w : World) (h : Va.neg s.data.toList = false) : Calls Tryz.prog 141 #[.string s, .string ⟨#[43]⟩] w fun e w' => e = .returned (.string ⟨(Va.un s.data.toList).toArray⟩) ∧ w = w' := by
  refine (Tryz.strings_TrimPrefix s ⟨#[43]⟩ w).mono ?_
  rintro e w' ⟨rfl, rfl⟩
  refine ⟨?_, rfl⟩
  unfold Va.un
  rw [if_neg (by simp [h])]
  show Ending.returned (.string ⟨(Lib.trimPrefix s.data.toList [43]).toArray⟩) = _
  rw [Va.tp1]
theorem kf (s : ByteArray) (u : List UInt8) (b : Bool) (hb : b = false) {x : Value} (h : x = .tuple #[.string (if b then ⟨u.toArray⟩ else s), .bool b]) : x = .tuple #[.string s, .bool false] := by
  rw [h, hb]; rfl
theorem kt (s : ByteArray) (u : List UInt8) (b : Bool) (hb : b = true) {x : Value} (h : x = .tuple #[.string (if b then ⟨u.toArray⟩ else s), .bool b]) : x = .tuple #[.string ⟨u.toArray⟩, .bool true] := by
  rw [h, hb]; rfl
set_option maxHeartbeats 4000000 in
theorem number_parse (s : ByteArray) (w : World) :
    Calls Tryz.prog 133 #[.string s] w fun e w' => e = .returned (Va.opV (if Va.plB s.data.toList then some (Va.plV s.data.toList) else none)) ∧ w = w' := by
  have k1 : cpV s.data.toList 45 = .tuple #[.string ⟨(Va.bod s.data.toList).toArray⟩, .bool (Va.neg s.data.toList)] := by
    by_cases hn : s.data.toList.head? = some 45
    · have h1 : Va.neg s.data.toList = true := by unfold Va.neg; rw [hn]; rfl
      have h2 : Va.bod s.data.toList = s.data.toList.tail := by unfold Va.bod; rw [if_pos h1]
      rw [cp_t hn, h1, h2]
    · have h1 : Va.neg s.data.toList = false := by unfold Va.neg; rw [beq_eq_false_iff_ne]; exact hn
      rw [cp_f hn, h1, Va.bod_no h1, Lib.mk_data]
  have K1 := Lib.hid k1
  clear k1
  have cD := decimal_any ⟨(Va.bod s.data.toList).toArray⟩ 9 w (by omega)
  have e1 : (ByteArray.mk (Va.bod s.data.toList).toArray).data.toList = Va.bod s.data.toList := rfl
  rw [e1] at cD
  clear e1
  unfold Va.plB Va.plV
  generalize Va.neg s.data.toList = ng at *
  generalize Va.bod s.data.toList = b at *
  rcases hb : Va.num b 9
  · rw [hb] at cD
    go_enter Tryz.func133, Tryz.ntmps133
    go_wp2_with (first | (go_at_call 140; refine (cp_any _ _ _).mono ?_; rintro e w' ⟨rfl, rfl⟩; rw [K1.out]) | (go_at_call 171; refine cD.mono ?_; rintro e w' ⟨rfl, rfl⟩))
    go_ret2
    exact ⟨rfl, rfl⟩
  · have hv : decV b 9 = Txt.val b 0 := by unfold decV; rw [hb]; rfl
    have hlt := Va.val_lt10 hb
    rw [hb, hv] at cD
    have cS := signed_any (Txt.val b 0 : Int) ng w (by omega) (by omega)
    have hs : -1000000000 ≤ Va.sg ng (Txt.val b 0 : Int) ∧ Va.sg ng (Txt.val b 0 : Int) ≤ 1000000000 := by unfold Va.sg; split <;> omega
    generalize Va.sg ng (Txt.val b 0 : Int) = sv at *
    clear hv hb
    generalize Txt.val b 0 = bv at *
    go_enter Tryz.func133, Tryz.ntmps133
    go_wp2_with (first | (go_at_call 140; refine (cp_any _ _ _).mono ?_; rintro e w' ⟨rfl, rfl⟩; rw [K1.out]) | (go_at_call 171; refine cD.mono ?_; rintro e w' ⟨rfl, rfl⟩) | (go_at_call 172; refine cS.mono ?_; rintro e w' ⟨rfl, rfl⟩))
    go_ret2
    exact ⟨rfl, rfl⟩
end Go.Proofs.YtleeklcpbflfhaaGreatDoor
