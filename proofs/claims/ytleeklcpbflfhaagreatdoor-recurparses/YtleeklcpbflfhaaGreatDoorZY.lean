/- The texts RfMt, RfGr, RfInsR, RfSg, RfLst, RfInsD, RfLsD, RfCn, one behind the other. -/
import Derived.Test.YtleeklcpbflfhaaGreatDoorZN
import Derived.Test.YtleeklcpbflfhaaGreatDoorZE
import Derived.Test.YtleeklcpbflfhaaGreatDoorZV
import Derived.Test.YtleeklcpbflfhaaGreatDoorZRfLeaf
import Derived.Test.YtleeklcpbflfhaaGreatDoorZS
import Derived.Test.YtleeklcpbflfhaaGreatDoorZC
namespace Go.Proofs.YtleeklcpbflfhaaGreatDoor
namespace Rm

/- insert, after the places of p: what is out, and whether n is in -/
def inF (n : Int) (p : List Int) : List Int × Bool := p.foldl (fun s x => ((if s.2 = false ∧ n ≤ x then s.1 ++ [n] else s.1) ++ (if x = n then [] else [x]), s.2 || decide (n ≤ x))) ([], false)
theorem inF_snoc (n : Int) (p : List Int) (x : Int) : inF n (p ++ [x]) = ((if (inF n p).2 = false ∧ n ≤ x then (inF n p).1 ++ [n] else (inF n p).1) ++ (if x = n then [] else [x]), (inF n p).2 || decide (n ≤ x)) := by
  unfold inF
  rw [List.foldl_append]
  rfl
theorem in_true (n : Int) : ∀ (l a : List Int), l.foldl (fun (s : List Int × Bool) x => ((if s.2 = false ∧ n ≤ x then s.1 ++ [n] else s.1) ++ (if x = n then [] else [x]), s.2 || decide (n ≤ x))) (a, true) = (a ++ l.filter (· != n), true)
  | [], a => by simp
  | x :: l, a => by
    rw [List.foldl_cons]
    dsimp only
    rw [if_neg (by simp), Bool.true_or, in_true n l, List.filter_cons]
    by_cases h : x = n
    · rw [if_pos h, if_neg (by simpa using h), List.append_nil]
    · rw [if_neg h, if_pos (by simpa using h), List.append_assoc, List.singleton_append]
theorem in_false (n : Int) : ∀ (l a : List Int), (fun s : List Int × Bool => if s.2 = true then s.1 else s.1 ++ [n]) (l.foldl (fun (s : List Int × Bool) x => ((if s.2 = false ∧ n ≤ x then s.1 ++ [n] else s.1) ++ (if x = n then [] else [x]), s.2 || decide (n ≤ x))) (a, false)) = a ++ ins l n
  | [], a => by simp [ins]
  | x :: l, a => by
    rw [List.foldl_cons]
    by_cases h : n ≤ x
    · simp only [h, and_self, if_true, decide_true, Bool.or_true]
      rw [in_true]
      simp only [if_true]
      rw [ins, if_pos h, List.filter_cons]
      by_cases e : x = n
      · rw [if_pos e, if_neg (by simpa using e)]; simp
      · rw [if_neg e, if_pos (by simpa using e)]; simp
    · have e : ¬ x = n := by omega
      simp only [h, and_false, if_false, decide_false, Bool.or_false, e]
      have := in_false n l (a ++ [x])
      simp only at this
      rw [this, ins, if_neg h]
      simp
theorem inF_all (n : Int) (l : List Int) : (if (inF n l).2 = true then (inF n l).1 else (inF n l).1 ++ [n]) = ins l n := by
  have := in_false n l []
  rw [List.nil_append] at this
  exact this
def inFD (n : Int × Int) (p : List (Int × Int)) : List (Int × Int) × Bool := p.foldl (fun s x => ((if s.2 = false ∧ bef x n = false then s.1 ++ [n] else s.1) ++ (if x = n then [] else [x]), s.2 || !bef x n)) ([], false)
theorem inFD_snoc (n : Int × Int) (p : List (Int × Int)) (x : Int × Int) : inFD n (p ++ [x]) = ((if (inFD n p).2 = false ∧ bef x n = false then (inFD n p).1 ++ [n] else (inFD n p).1) ++ (if x = n then [] else [x]), (inFD n p).2 || !bef x n) := by
  unfold inFD
  rw [List.foldl_append]
  rfl
theorem inD_true (n : Int × Int) : ∀ (l a : List (Int × Int)), l.foldl (fun (s : List (Int × Int) × Bool) x => ((if s.2 = false ∧ bef x n = false then s.1 ++ [n] else s.1) ++ (if x = n then [] else [x]), s.2 || !bef x n)) (a, true) = (a ++ l.filter (· != n), true)
  | [], a => by simp
  | x :: l, a => by
    rw [List.foldl_cons]
    dsimp only
    rw [if_neg (by simp), Bool.true_or, inD_true n l, List.filter_cons]
    by_cases h : x = n
    · rw [if_pos h, if_neg (by simpa using h), List.append_nil]
    · rw [if_neg h, if_pos (by simpa using h), List.append_assoc, List.singleton_append]
theorem inD_false (n : Int × Int) : ∀ (l a : List (Int × Int)), (fun s : List (Int × Int) × Bool => if s.2 = true then s.1 else s.1 ++ [n]) (l.foldl (fun (s : List (Int × Int) × Bool) x => ((if s.2 = false ∧ bef x n = false then s.1 ++ [n] else s.1) ++ (if x = n then [] else [x]), s.2 || !bef x n)) (a, false)) = a ++ insD l n
  | [], a => by simp [insD]
  | x :: l, a => by
    rw [List.foldl_cons]
    by_cases h : bef x n = false
    · simp only [h, and_self, if_true, Bool.not_false, Bool.or_true]
      rw [inD_true]
      simp only [if_true]
      rw [insD, if_neg (show ¬ bef x n = true by rw [h]; decide), List.filter_cons]
      by_cases e : x = n
      · rw [if_pos e, if_neg (by simpa using e)]; simp
      · rw [if_neg e, if_pos (by simpa using e)]; simp
    · have h1 : bef x n = true := by simpa using h
      have e : ¬ x = n := by
        rintro rfl
        rw [bef_iff] at h1; omega
      simp only [h1, and_false, if_false, Bool.not_true, Bool.or_false, e, Bool.true_eq_false]
      have := inD_false n l (a ++ [x])
      simp only at this
      rw [this, insD, if_pos h1]
      simp
theorem inFD_all (n : Int × Int) (l : List (Int × Int)) : (if (inFD n l).2 = true then (inFD n l).1 else (inFD n l).1 ++ [n]) = insD l n := by
  have := inD_false n l []
  rw [List.nil_append] at this
  exact this
theorem inF_len (n : Int) (l : List Int) : (inF n l).1.length ≤ 2 * l.length := by
  have : ∀ (p q : List Int), (inF n p).1.length ≤ 2 * p.length → (inF n (p ++ q)).1.length ≤ 2 * (p ++ q).length := by
    intro p q
    induction q generalizing p with
    | nil => intro h; simpa using h
    | cons x q ih =>
      intro h
      have := ih (p ++ [x]) (by
        rw [inF_snoc]
        simp only [List.length_append, List.length_singleton]
        split <;> split <;> simp <;> omega)
      simpa using this
  simpa using this [] l (by simp [inF])
theorem inFD_len (n : Int × Int) (l : List (Int × Int)) : (inFD n l).1.length ≤ 2 * l.length := by
  have : ∀ (p q : List (Int × Int)), (inFD n p).1.length ≤ 2 * p.length → (inFD n (p ++ q)).1.length ≤ 2 * (p ++ q).length := by
    intro p q
    induction q generalizing p with
    | nil => intro h; simpa using h
    | cons x q ih =>
      intro h
      have := ih (p ++ [x]) (by
        rw [inFD_snoc]
        simp only [List.length_append, List.length_singleton]
        split <;> split <;> simp <;> omega)
      simpa using this
  simpa using this [] l (by simp [inFD])
theorem ins_len2 (l : List Int) (n : Int) : (ins l n).length ≤ l.length + 1 := by
  induction l with
  | nil => simp [ins]
  | cons x l ih =>
    rw [ins]
    split
    · have := List.length_filter_le (· != n) (x :: l)
      simp only [List.length_cons] at this ⊢
      omega
    · simp only [List.length_cons]; omega
theorem insD_len2 (l : List (Int × Int)) (n : Int × Int) : (insD l n).length ≤ l.length + 1 := by
  induction l with
  | nil => simp [insD]
  | cons x l ih =>
    rw [insD]
    split
    · simp only [List.length_cons]; omega
    · have := List.length_filter_le (· != n) (x :: l)
      simp only [List.length_cons] at this ⊢
      omega
/- Cut, at the place i: what is out, and where what follows begins -/
structure CutI (c : UInt8) (l : List UInt8) (i : Nat) (out : List (List UInt8)) (b : Nat) : Prop where
  le : b ≤ i
  eq : out ++ cutB c (l.drop b) = cutB c l
  no : c ∉ (l.drop b).take (i - b)
theorem CutI.zero (c : UInt8) (l : List UInt8) : CutI c l 0 [] 0 := ⟨Nat.le_refl _, rfl, by simp⟩
theorem CutI.skip {c : UInt8} {l : List UInt8} {i : Nat} {out : List (List UInt8)} {b : Nat} (h : CutI c l i out b) {x : UInt8} (hx : l[i]? = some x) (hn : x ≠ c) : CutI c l (i + 1) out b := by
  refine ⟨by have := h.le; omega, h.eq, ?_⟩
  have e : i + 1 - b = (i - b) + 1 := by have := h.le; omega
  rw [e, List.take_add_one, List.mem_append, not_or]
  refine ⟨h.no, ?_⟩
  rw [List.getElem?_drop, show b + (i - b) = i by have := h.le; omega, hx]
  simpa using fun e => hn e.symm
theorem CutI.cut {c : UInt8} {l : List UInt8} {i : Nat} {out : List (List UInt8)} {b : Nat} (h : CutI c l i out b) (hx : l[i]? = some c) : CutI c l (i + 1) (out ++ [(l.drop b).take (i - b)]) (i + 1) := by
  refine ⟨Nat.le_refl _, ?_, by simp⟩
  have hb := h.le
  have e : l.drop b = (l.drop b).take (i - b) ++ c :: l.drop (i + 1) := by
    have h1 := (List.take_append_drop (i - b) (l.drop b)).symm
    rw [List.drop_drop, show b + (i - b) = i by omega] at h1
    obtain ⟨hi, hg⟩ := List.getElem?_eq_some_iff.1 hx
    rw [List.drop_eq_getElem_cons hi, hg] at h1
    exact h1
  have h2 := h.eq
  rw [e, cutB_app h.no] at h2
  rw [← h2, List.append_assoc]
  rfl
theorem CutI.last {c : UInt8} {l : List UInt8} {out : List (List UInt8)} {b : Nat} (h : CutI c l l.length out b) : out ++ [(l.drop b).take (l.length - b)] = cutB c l := by
  have hb := h.le
  have e : (l.drop b).take (l.length - b) = l.drop b := List.take_of_length_le (by simp)
  have := h.no
  rw [e] at this ⊢
  rw [← h.eq, cutB_one this]
end Rm
end Go.Proofs.YtleeklcpbflfhaaGreatDoor
namespace Go.Proofs.YtleeklcpbflfhaaGreatDoor
open Go.RowKit

set_option maxHeartbeats 4000000 in
set_option maxRecDepth 100000 in
theorem great_any (s : ByteArray) (w : World) (hs : s.size ≤ 100000) :
    Calls Tryz.prog 38 #[.string s] w fun e w' => e = .returned (.string ⟨(s.data.toList.map Rm.up).toArray⟩) ∧ Gr w w' := by
  have HSZ := Lib.hid (Lib.size_eq s)
  go_enter Tryz.func38, Tryz.ntmps38
  go_wp2
  go_loopg [3, 8] s.size (fun g v3 v wx => ∃ (k : Nat) (A : Option Addr) (c : Nat), v = .int .i64 (k : Int) ∧ v3 = .slice A k c ∧ k + g = s.size ∧ OwnV wx w.heap.size 5 A k c (bc ((s.data.toList.take k).map Rm.up)) ∧ Below w.heap.size w wx)
  case atStart => exact ⟨0, none, 0, rfl, rfl, by omega, OwnV.nil _ _ _, Below.refl _ _⟩
  case round =>
    obtain ⟨k, A, c, rfl, rfl, hkg, ho, hbx⟩ := hrel
    have HG := Lib.hid hkg
    have hszw := hbx.size
    clear hkg
    by_cases hk : k < s.size
    · have hk' : k < s.data.toList.length := by rw [← HSZ.out]; exact hk
      have hbk : s.data.toList[k]? = some s[k] := at_toNat s k hk
      have hbk2 : s.data.toList[k] = s[k] := by rw [List.getElem?_eq_getElem hk'] at hbk; exact Option.some.inj hbk
      have hkc : (k : Int) < (s.size : Int) := by omega
      have HTK := Lib.hid (show bc ((s.data.toList.take (k + 1)).map Rm.up) = bc ((s.data.toList.take k).map Rm.up) ++ [.int .u8 ((Rm.up s[k]).toNat : Int)] by rw [List.take_succ_eq_append_getElem hk', List.map_append, hbk2, bc_append]; rfl)
      have HUP := Lib.hid (@up_hi s[k])
      have HLO := Lib.hid (@up_lo s[k])
      have hb0 : (0 : Int) ≤ (s[k].toNat : Int) := by omega
      have hb1 : (s[k].toNat : Int) ≤ 255 := by have := s[k].toNat_lt; omega
      clear hbk hbk2
      by_cases h1 : (97 : Int) ≤ (s[k].toNat : Int)
      · by_cases h2 : (s[k].toNat : Int) ≤ 122
        · have hup := HUP.out h1 h2
          have hval : ((Rm.up s[k]).toNat : Int) = (s[k].toNat : Int) - 97 + 65 := by omega
          have HV := Lib.hid hval
          clear HUP HLO hup hval
          go_wp2_with (at_builtin; refine ap_lit wr rfl (.tmp 23) (.tmp 25) 79 5 (.int .u8 0) 1 Tryz.underlying79 info_u8 rfl (by omega) rfl w.heap.size A k c _ [.int .u8 ((s[k].toNat : Int) - 97 + 65)] rfl ho 1 1 rfl rfl (by intro u hu; simp at hu; subst hu; rfl) (by omega) hszw ?_; intro A3 c3 w3 ho3 hb3)
          go_roundg (s.size - (k + 1))
          case measure => have := HG.out; omega
          case rel => exact ⟨k + 1, A3, c3, by go_num, rfl, by omega, by rw [HTK.out, HV.out]; exact ho3, hbx.trans hb3⟩
        · have hlo := HLO.out (fun h => h2 h.2)
          rw [hlo] at HTK
          clear HUP HLO hlo
          go_wp2_with (at_builtin; refine ap_lit wr rfl (.tmp 23) (.tmp 25) 79 5 (.int .u8 0) 1 Tryz.underlying79 info_u8 rfl (by omega) rfl w.heap.size A k c _ [.int .u8 (s[k].toNat : Int)] rfl ho 1 1 rfl rfl (by intro u hu; simp at hu; subst hu; rfl) (by omega) hszw ?_; intro A3 c3 w3 ho3 hb3)
          go_roundg (s.size - (k + 1))
          case measure => have := HG.out; omega
          case rel => exact ⟨k + 1, A3, c3, by go_num, rfl, by omega, by rw [HTK.out]; exact ho3, hbx.trans hb3⟩
      · have hlo := HLO.out (fun h => h1 h.1)
        rw [hlo] at HTK
        clear HUP HLO hlo
        go_wp2_with (at_builtin; refine ap_lit wr rfl (.tmp 23) (.tmp 25) 79 5 (.int .u8 0) 1 Tryz.underlying79 info_u8 rfl (by omega) rfl w.heap.size A k c _ [.int .u8 (s[k].toNat : Int)] rfl ho 1 1 rfl rfl (by intro u hu; simp at hu; subst hu; rfl) (by omega) hszw ?_; intro A3 c3 w3 ho3 hb3)
        go_roundg (s.size - (k + 1))
        case measure => have := HG.out; omega
        case rel => exact ⟨k + 1, A3, c3, by go_num, rfl, by omega, by rw [HTK.out]; exact ho3, hbx.trans hb3⟩
    · obtain rfl : k = s.size := by have := HG.out; omega
      rw [List.take_of_length_le (by rw [HSZ.out]; exact Nat.le_refl _)] at ho
      have hcb := conv_back ho
      go_wp2
      go_ret
      exact ⟨rfl, ⟨hbx⟩⟩
/- Cut: the pieces, in memory of the call's own -/
set_option maxHeartbeats 4000000 in
set_option maxRecDepth 100000 in
theorem rcut_any (s : ByteArray) (c : UInt8) (w : World) (hs : s.size ≤ 100000) :
    Calls Tryz.prog 37 #[.string s, .int .u8 (c.toNat : Int)] w fun e w' => ∃ A n cp, e = .returned (.slice A n cp) ∧ Gr w w' ∧ Strs w' w'.heap.size A n (Rm.cutB c s.data.toList) ∧ (0 < n → ∀ ad, A = some ad → w.heap.size ≤ ad.block) := by
  have HSZ := Lib.hid (Lib.size_eq s)
  have hc0 : (0 : Int) ≤ (c.toNat : Int) := by omega
  have hc1 : (c.toNat : Int) ≤ 255 := by have := c.toNat_lt; omega
  go_enter Tryz.func37, Tryz.ntmps37
  go_wp2
  go_loopg [5, 6, 7] (s.size + 1) (fun g v5 v6 v7 wx => ∃ (k b n cp : Nat) (A : Option Addr) (out : List (List UInt8)), v7 = .int .i64 (k : Int) ∧ v6 = .int .i64 (b : Int) ∧ v5 = .slice A n cp ∧ k + g = s.size + 1 ∧ n ≤ k ∧ OwnV wx w.heap.size 9 A n cp (sc out) ∧ Below w.heap.size w wx ∧ b ≤ k ∧
    Hid ((k ≤ s.size ∧ Rm.CutI c s.data.toList k out b) ∨ (s.size < k ∧ out = Rm.cutB c s.data.toList)))
  case atStart => exact ⟨0, 0, 0, 0, none, [], rfl, rfl, rfl, by omega, Nat.le_refl _, OwnV.nil _ _ _, Below.refl _ _, Nat.le_refl _, Lib.hid (Or.inl ⟨Nat.zero_le _, Rm.CutI.zero _ _⟩)⟩
  case round =>
    obtain ⟨k, b, n, cp, A, out, rfl, rfl, rfl, hkg, hnk, ho, hbx, hbk, HI⟩ := hrel
    have HG := Lib.hid hkg
    have hszw := hbx.size
    clear hkg
    by_cases hk : k ≤ s.size
    · have hci : Rm.CutI c s.data.toList k out b := by
        rcases HI.out with h | h
        · exact h.2
        · exact absurd h.1 (by omega)
      have hkc : (k : Int) ≤ (s.size : Int) := by omega
      have hE : s.extract b k = ⟨((s.data.toList.drop b).take (k - b)).toArray⟩ := str_data (by rw [Lib.extract_data])
      have HE := Lib.hid hE
      clear hE HI
      by_cases hke : k = s.size
      · subst hke
        have HL := Lib.hid (show out ++ [(s.data.toList.drop b).take (s.size - b)] = Rm.cutB c s.data.toList by
          have h := hci
          rw [HSZ.out] at h ⊢
          exact h.last)
        clear hci
        go_wp2_with (at_builtin; refine ap_lit wr rfl (.tmp 25) (.tmp 30) 40 9 (.string ⟨#[]⟩) 16 Tryz.underlying40 info_str rfl (by omega) rfl w.heap.size A n cp _ [.string (s.extract b s.size)] rfl ho 1 1 rfl rfl (by intro u hu; simp at hu; subst hu; rfl) (by omega) hszw ?_; intro A3 c3 w3 ho3 hb3)
        go_roundg 0
        case measure => have := HG.out; omega
        case rel => exact ⟨s.size + 1, s.size + 1, n + 1, c3, A3, _, by go_num, by go_num, rfl, by omega, by omega, by rw [HE.out] at ho3; rw [← HL.out, sc_append]; exact ho3, hbx.trans hb3, by omega, Lib.hid (Or.inr ⟨by omega, rfl⟩)⟩
      · have hk' : k < s.size := by omega
        have hgx : s.data.toList[k]? = some s[k] := at_toNat s k hk'
        have hkn : ((k : Int) == (s.size : Int)) = false := beq_eq_false_iff_ne.2 (by omega)
        have hkl : (k : Int) < (s.size : Int) := by omega
        have hb0 : (0 : Int) ≤ (s[k].toNat : Int) := by omega
        have hb1 : (s[k].toNat : Int) ≤ 255 := by have := s[k].toNat_lt; omega
        by_cases hx : s[k] = c
        · rw [hx] at hgx
          have HC := Lib.hid (hci.cut hgx)
          have hxi : ((s[k].toNat : Int) == (c.toNat : Int)) = true := by rw [hx]; simp
          clear hci hgx hx
          go_wp2_with (at_builtin; refine ap_lit wr rfl (.tmp 25) (.tmp 30) 40 9 (.string ⟨#[]⟩) 16 Tryz.underlying40 info_str rfl (by omega) rfl w.heap.size A n cp _ [.string (s.extract b k)] rfl ho 1 1 rfl rfl (by intro u hu; simp at hu; subst hu; rfl) (by omega) hszw ?_; intro A3 c3 w3 ho3 hb3)
          go_roundg (s.size - k)
          case measure => have := HG.out; omega
          case rel => exact ⟨k + 1, k + 1, n + 1, c3, A3, _, by go_num, by go_num, rfl, by omega, by omega, by rw [HE.out] at ho3; rw [sc_append]; exact ho3, hbx.trans hb3, by omega, Lib.hid (Or.inl ⟨by omega, HC.out⟩)⟩
        · have HC := Lib.hid (hci.skip hgx hx)
          have hxi : ((s[k].toNat : Int) == (c.toNat : Int)) = false := beq_eq_false_iff_ne.2 (fun h => hx (UInt8.toNat_inj.1 (by omega)))
          clear hci hgx hx
          go_wp2
          go_roundg (s.size - k)
          case measure => have := HG.out; omega
          case rel => exact ⟨k + 1, b, n, cp, A, out, by go_num, rfl, rfl, by omega, by omega, ho, hbx, by omega, Lib.hid (Or.inl ⟨by omega, HC.out⟩)⟩
    · have hout : out = Rm.cutB c s.data.toList := by
        rcases HI.out with h | h
        · exact absurd h.1 hk
        · exact h.2
      have hkc : ¬ (k : Int) ≤ (s.size : Int) := by omega
      have HO := Lib.hid hout
      clear HI hout
      go_wp2
      go_ret
      refine ⟨A, n, ⟨cp, rfl⟩, ⟨hbx⟩, ?_, fun hn ad e => ?_⟩
      · rw [← HO.out]
        exact Strs.of_own ho
      · obtain ⟨g, h1, h2, _⟩ := ho.cells hn
        rw [h1] at e
        cases e
        exact h2
end Go.Proofs.YtleeklcpbflfhaaGreatDoor
namespace Go.Proofs.YtleeklcpbflfhaaGreatDoor
open Go.RowKit

theorem iv_app (a b : List Int) : iv (a ++ b) = iv a ++ iv b := by simp [iv]
set_option maxHeartbeats 4000000 in
set_option maxRecDepth 100000 in
theorem rins_any (A : Option Addr) (n c : Nat) (xs : List Int) (t : Int) (w : World) (hN : Nums w w.heap.size A n xs) (hn : n ≤ 400000) :
    Calls Tryz.prog 111 #[.slice A n c, .int .i64 t] w fun e w' => ∃ A' n' c', e = .returned (.slice A' n' c') ∧ Gr w w' ∧ Nums w' w'.heap.size A' n' (Rm.ins xs t) ∧ (0 < n' → ∀ ad, A' = some ad → w.heap.size ≤ ad.block) := by
  have HL := Lib.hid hN.1
  go_enter Tryz.func111, Tryz.ntmps111
  go_wp2
  go_loopg [5, 6, 10] n (fun g v5 v6 v wx => ∃ (k m cp : Nat) (B : Option Addr), v = .int .i64 (k : Int) ∧ v6 = .bool (Rm.inF t (xs.take k)).2 ∧ v5 = .slice B m cp ∧ k + g = n ∧ m ≤ 2 * k ∧ OwnV wx w.heap.size 3 B m cp (iv (Rm.inF t (xs.take k)).1) ∧ Gr w wx)
  case atStart => exact ⟨0, 0, 0, none, rfl, rfl, rfl, by omega, by omega, OwnV.nil _ _ _, Gr.refl _⟩
  case round =>
    obtain ⟨k, m, cp, B, rfl, rfl, rfl, hkg, hmk, ho, hg⟩ := hrel
    have HG := Lib.hid hkg
    clear hkg
    have hszw := hg.lt
    by_cases hk : k < n
    · obtain ⟨ad, hk', rfl, hbl, hc0⟩ := hN.at_ hk
      have d0 := (hg.below.cell (p := ad.add k) (by rw [add_block]; exact hbl)).trans hc0
      have hkn : (k : Int) < (n : Int) := by omega
      have HS := Lib.hid (show Rm.inF t (xs.take (k + 1)) = _ by rw [List.take_succ_eq_append_getElem hk', Rm.inF_snoc])
      clear hc0 hN
      generalize xs[k] = x at *
      generalize (Rm.inF t (xs.take k)).2 = dn at *
      generalize (Rm.inF t (xs.take k)).1 = out at *
      by_cases h1 : dn = false ∧ t ≤ x
      · obtain ⟨rfl, htx⟩ := h1
        have htx2 : (x : Int) ≥ t := htx
        by_cases h2 : x = t
        · have HT : Hid (Rm.inF t (xs.take (k + 1)) = (out ++ [t], true)) := Lib.hid (by rw [HS.out, if_pos ⟨rfl, htx⟩, if_pos h2]; simp [htx])
          clear HS
          go_wp2_with (at_builtin; refine ap_lit wr rfl (.tmp 23) (.tmp 25) 24 3 (.int .i64 0) 8 Tryz.underlying24 info_int rfl (by omega) rfl w.heap.size B m cp _ [.int .i64 t] rfl ho 1 1 rfl rfl (by intro u hu; simp at hu; subst hu; rfl) (by omega) hszw ?_; intro A3 c3 w3 ho3 hb3; have d0 := (hb3.cell (p := ad.add k) (by rw [add_block]; omega)).trans d0)
          go_roundg (n - (k + 1))
          case measure => have := HG.out; omega
          case rel => exact ⟨k + 1, m + 1, c3, A3, by go_num, by rw [HT.out], rfl, by omega, by omega, by rw [HT.out, iv_app]; exact ho3, ⟨hg.below.trans hb3⟩⟩
        · have HT : Hid (Rm.inF t (xs.take (k + 1)) = (out ++ [t] ++ [x], true)) := Lib.hid (by rw [HS.out, if_pos ⟨rfl, htx⟩, if_neg h2]; simp [htx])
          clear HS
          go_wp2_with (first
            | (at_builtin; refine ap_lit wr rfl (.tmp 23) (.tmp 25) 24 3 (.int .i64 0) 8 Tryz.underlying24 info_int rfl (by omega) rfl w.heap.size B m cp _ [.int .i64 t] rfl ho 1 1 rfl rfl (by intro u hu; simp at hu; subst hu; rfl) (by omega) hszw ?_; intro A3 c3 w3 ho3 hb3; have d0 := (hb3.cell (p := ad.add k) (by rw [add_block]; omega)).trans d0; have hsz3 := Nat.le_trans hszw hb3.size)
            | (at_builtin; refine ap_lit w3 rfl (.tmp 33) (.tmp 38) 24 3 (.int .i64 0) 8 Tryz.underlying24 info_int rfl (by omega) rfl w.heap.size A3 (m + 1) c3 _ [.int .i64 x] rfl ho3 1 1 rfl rfl (by intro u hu; simp at hu; subst hu; rfl) (by omega) hsz3 ?_; intro A4 c4 w4 ho4 hb4))
          go_roundg (n - (k + 1))
          case measure => have := HG.out; omega
          case rel => exact ⟨k + 1, m + 2, c4, A4, by go_num, by rw [HT.out], rfl, by omega, by omega, by rw [HT.out, iv_app, iv_app]; exact ho4, ⟨(hg.below.trans hb3).trans hb4⟩⟩
      · have h1b : (dn = true) ∨ (dn = false ∧ ¬ (x : Int) ≥ t) := by
          rcases dn with _ | _
          · exact Or.inr ⟨rfl, fun h => h1 ⟨rfl, h⟩⟩
          · exact Or.inl rfl
        have HS2 : Hid (Rm.inF t (xs.take (k + 1)) = (out ++ (if x = t then [] else [x]), dn)) := Lib.hid (by
          rw [HS.out, if_neg h1]
          rcases h1b with rfl | ⟨rfl, h⟩
          · simp
          · simp [show ¬ t ≤ x from h])
        clear HS h1
        by_cases h2 : x = t
        · have HT : Hid (Rm.inF t (xs.take (k + 1)) = (out, dn)) := Lib.hid (by rw [HS2.out, if_pos h2]; simp)
          clear HS2
          rcases h1b with rfl | ⟨_, h⟩
          · go_wp2
            go_roundg (n - (k + 1))
            case measure => have := HG.out; omega
            case rel => exact ⟨k + 1, m, cp, B, by go_num, by rw [HT.out], rfl, by omega, by omega, by rw [HT.out]; exact ho, hg⟩
          · exact absurd (show x ≥ t by omega) h
        · have HT : Hid (Rm.inF t (xs.take (k + 1)) = (out ++ [x], dn)) := Lib.hid (by rw [HS2.out, if_neg h2])
          clear HS2
          rcases h1b with rfl | ⟨rfl, h⟩
          all_goals
            go_wp2_with (at_builtin; refine ap_lit wr rfl (.tmp 33) (.tmp 38) 24 3 (.int .i64 0) 8 Tryz.underlying24 info_int rfl (by omega) rfl w.heap.size B m cp _ [.int .i64 x] rfl ho 1 1 rfl rfl (by intro u hu; simp at hu; subst hu; rfl) (by omega) hszw ?_; intro A3 c3 w3 ho3 hb3)
            go_roundg (n - (k + 1))
            case measure => have := HG.out; omega
            case rel => exact ⟨k + 1, m + 1, c3, A3, by go_num, by rw [HT.out], rfl, by omega, by omega, by rw [HT.out, iv_app]; exact ho3, ⟨hg.below.trans hb3⟩⟩
    · obtain rfl : k = n := by have := HG.out; omega
      rw [List.take_of_length_le (by rw [HL.out]; exact Nat.le_refl _)] at ho ⊢
      have HA := Lib.hid (Rm.inF_all t xs)
      generalize (Rm.inF t xs).2 = dn at *
      generalize (Rm.inF t xs).1 = out at *
      clear hN
      rcases dn with _ | _
      · go_wp2_with (at_builtin; refine ap_lit wr rfl (.tmp 43) (.tmp 45) 24 3 (.int .i64 0) 8 Tryz.underlying24 info_int rfl (by omega) rfl w.heap.size B m cp _ [.int .i64 t] rfl ho 1 1 rfl rfl (by intro u hu; simp at hu; subst hu; rfl) (by omega) hszw ?_; intro A3 c3 w3 ho3 hb3)
        go_ret
        have e : out ++ [t] = Rm.ins xs t := by rw [← HA.out]; rfl
        have ho4 : OwnV w3 w.heap.size 3 A3 (m + 1) c3 (iv (Rm.ins xs t)) := by rw [← e, iv_app]; exact ho3
        first | exact ⟨A3, m + 1, ⟨c3, rfl⟩, ⟨hg.below.trans hb3⟩, (own_nums ho4).1, (own_nums ho4).2⟩ | exact ⟨A3, m + 1, c3, rfl, ⟨hg.below.trans hb3⟩, (own_nums ho4).1, (own_nums ho4).2⟩
      · go_wp2
        go_ret
        have e : out = Rm.ins xs t := by rw [← HA.out]; rfl
        rw [e] at ho
        first | exact ⟨B, m, ⟨cp, rfl⟩, hg, (own_nums ho).1, (own_nums ho).2⟩ | exact ⟨B, m, cp, rfl, hg, (own_nums ho).1, (own_nums ho).2⟩
namespace Rm
theorem which_out2 {l : List UInt8} (h : ∀ j : Nat, j < 7 → wd (j : Int) ≠ l) : which l = -1 := by
  unfold which
  rw [if_neg (fun e => h 0 (by decide) (by rw [e]; rfl)), if_neg (fun e => h 1 (by decide) (by rw [e]; rfl)), if_neg (fun e => h 2 (by decide) (by rw [e]; rfl)), if_neg (fun e => h 3 (by decide) (by rw [e]; rfl)), if_neg (fun e => h 4 (by decide) (by rw [e]; rfl)), if_neg (fun e => h 5 (by decide) (by rw [e]; rfl)), if_neg (fun e => h 6 (by decide) (by rw [e]; rfl))]
end Rm
set_option maxHeartbeats 4000000 in
set_option maxRecDepth 100000 in
theorem rwhich_any (s : ByteArray) (w : World) : Calls Tryz.prog 79 #[.string s] w fun e w' => e = .returned (.int .i64 (Rm.which s.data.toList)) ∧ w = w' := by
  go_enter Tryz.func79, Tryz.ntmps79
  go_wp2
  go_loopg [4] 7 (fun g v wx => ∃ k : Nat, v = .int .i64 (k : Int) ∧ k + g = 7 ∧ w = wx ∧ Hid (∀ j : Nat, j < k → Rm.wd (j : Int) ≠ s.data.toList))
  case atStart => exact ⟨0, rfl, rfl, rfl, Lib.hid (fun j h => by omega)⟩
  case round =>
    obtain ⟨k, rfl, hkg, rfl, HX⟩ := hrel
    have HG := Lib.hid hkg
    clear hkg
    by_cases hk : k < 7
    · have hkn : (k : Int) < 7 := by omega
      have cW := fun w => rwd_any k hk w
      by_cases he : Rm.wd (k : Int) = s.data.toList
      · have hq : ((ByteArray.mk (Rm.wd (k : Int)).toArray).toList == s.toList) = true := str_eq ⟨fun _ => by rw [← he], fun _ => rfl⟩
        have HW := Lib.hid (show Rm.which s.data.toList = (k : Int) by rw [← he]; exact Rm.which_wd (by omega) (by omega))
        clear he
        generalize (ByteArray.mk (Rm.wd (k : Int)).toArray) = t at *
        go_wp2_with (go_at_call 25; refine (cW _).mono ?_; rintro e w' ⟨rfl, rfl⟩)
        go_ret
        exact ⟨by rw [HW.out]; rfl, rfl⟩
      · have hq : ((ByteArray.mk (Rm.wd (k : Int)).toArray).toList == s.toList) = false := str_eq ⟨(fun h => by cases h), (fun h => absurd (show Rm.wd (k : Int) = s.data.toList by rw [← h]) he)⟩
        have HE := Lib.hid he
        clear he
        generalize (ByteArray.mk (Rm.wd (k : Int)).toArray) = t at *
        go_wp2_with (go_at_call 25; refine (cW _).mono ?_; rintro e w' ⟨rfl, rfl⟩)
        go_roundg (7 - (k + 1))
        case measure => have := HG.out; omega
        case rel =>
          refine ⟨k + 1, by go_num, by omega, rfl, Lib.hid (fun j hj => ?_)⟩
          by_cases h : j = k
          · rw [h]; exact HE.out
          · exact HX.out j (by omega)
    · obtain rfl : k = 7 := by have := HG.out; omega
      have HW := Lib.hid (Rm.which_out2 HX.out)
      go_wp2
      go_ret
      exact ⟨by rw [HW.out]; rfl, rfl⟩
end Go.Proofs.YtleeklcpbflfhaaGreatDoor
namespace Go.Proofs.YtleeklcpbflfhaaGreatDoor
open Go.RowKit

namespace Rm
theorem dgs_num {l : List UInt8} (h : l.length ≤ 4) : Va.dgs l = if Va.num l 4 = true then (Txt.val l 0 : Int) else -1 := by
  unfold Va.dgs
  by_cases hn : Va.num l 4 = true
  · obtain ⟨h1, h2, h3⟩ := Va.num_iff.1 hn
    rw [if_pos hn, if_pos ⟨h1, h3⟩]
  · rw [if_neg hn, if_neg (fun e => hn (Va.num_iff.2 ⟨e.1, h, e.2⟩))]
end Rm
def SgR (o : Option Int) (w : World) (e : Ending) (w' : World) : Prop :=
  ∃ v q, e = .returned (.tuple #[.int .i64 v, .bool q]) ∧ ((q = true ∧ o = some v ∧ -9999 ≤ v ∧ v ≤ 9999) ∨ (q = false ∧ o = none)) ∧ w = w'
set_option maxRecDepth 100000 in
set_option maxHeartbeats 4000000 in
theorem rsgn_any (s : ByteArray) (w : World) (hl : s.size ≤ 100000) :
    Calls Tryz.prog 109 #[.string s] w (SgR (Rm.sr s.data.toList) w) := by
  by_cases h0 : 0 < s.size
  · have hz : decide ((0 : Int) < (s.size : Int)) = true := by simp; omega
    have hh : s.data.toList.head? = some s[0] := by
      rw [List.head?_eq_getElem?, Array.getElem?_toList]
      exact Array.getElem?_eq_getElem h0
    have hsz := Lib.size_eq s
    have e1 : (s.extract 1 s.size).data.toList = s.data.toList.tail := by
      rw [ByteArray.data_extract, Array.toList_extract]
      simp
      rw [List.take_of_length_le (by rw [List.length_tail]; omega)]
    have cD := fun (u : ByteArray) (h : u.size ≤ 4) w => digits12_any u w (by omega)
    rcases (show s[0] = 43 ∨ s[0] = 45 ∨ (¬ s[0] = 43 ∧ ¬ s[0] = 45) by by_cases a : s[0] = 43; exact Or.inl a; by_cases b : s[0] = 45; exact Or.inr (Or.inl b); exact Or.inr (Or.inr ⟨a, b⟩)) with hc | hc | ⟨ha, hb⟩
    · have hs : Rm.sr s.data.toList = if Va.num s.data.toList.tail 4 = true then some ((Txt.val s.data.toList.tail 0 : Int)) else none := by
        have e : Rm.sgd s.data.toList = s.data.toList.tail := if_pos (Or.inl (by rw [hh, hc]))
        unfold Rm.sr
        rw [e, hh, hc]
        rfl
      have hk : (s[0].toNat : Int) = 43 := by rw [hc]; rfl
      clear hc
      have hz2 : (s.extract 1 s.size).size = s.size - 1 := by simp
      have hlen : s.data.toList.tail.length = s.size - 1 := by rw [List.length_tail]; omega
      have HN := Lib.hid (fun h : 4 < s.data.toList.tail.length => Rm.num_long h)
      have HD := Lib.hid (fun h : s.data.toList.tail.length ≤ 4 => Rm.dgs_num h)
      have HB := Lib.hid (fun h => Rm.val_9999 (l := s.data.toList.tail) h)
      have HS := Lib.hid hs
      have HL := Lib.hid hlen
      have cD := fun (h : (s.extract 1 s.size).size ≤ 4) w => cD (s.extract 1 s.size) h w
      rw [e1] at cD
      clear hs hh hlen e1 hsz
      obtain ⟨O, hO⟩ : ∃ O, Rm.sr s.data.toList = O := ⟨_, rfl⟩
      rw [hO] at HS ⊢
      clear hO
      by_cases hbig : 4 < s.size - 1
      · have HE : Hid (O = none) := Lib.hid (by rw [HS.out, HN.out (by rw [HL.out]; exact hbig)]; rfl)
        clear cD
        go_enter Tryz.func109, Tryz.ntmps109
        go_wp2
        go_ret2
        exact ⟨_, _, rfl, Or.inr ⟨rfl, HE.out⟩, rfl⟩
      · have cD := cD (by rw [hz2]; omega)
        rw [HD.out (by rw [HL.out]; omega)] at cD
        clear HD HN HL
        generalize Va.num s.data.toList.tail 4 = b at *
        generalize Txt.val s.data.toList.tail 0 = n at *
        rcases b
        · have HE : Hid (O = none) := Lib.hid HS.out
          rw [if_neg (by decide)] at cD
          go_enter Tryz.func109, Tryz.ntmps109
          go_wp2_with (go_at_call 107; refine (cD _).mono ?_; rintro e w' ⟨rfl, rfl⟩)
          go_ret2
          exact ⟨_, _, rfl, Or.inr ⟨rfl, HE.out⟩, rfl⟩
        · have HE : Hid (O = some ((n : Int))) := Lib.hid HS.out
          have hn := HB.out rfl
          rw [if_pos rfl] at cD
          clear HS HB
          go_enter Tryz.func109, Tryz.ntmps109
          go_wp2_with (go_at_call 107; refine (cD _).mono ?_; rintro e w' ⟨rfl, rfl⟩)
          go_ret2
          exact ⟨(n : Int), true, rfl, Or.inl ⟨rfl, HE.out, by omega, by omega⟩, rfl⟩
    · have hs : Rm.sr s.data.toList = if Va.num s.data.toList.tail 4 = true then some (-(Txt.val s.data.toList.tail 0 : Int)) else none := by
        have e : Rm.sgd s.data.toList = s.data.toList.tail := if_pos (Or.inr (by rw [hh, hc]))
        unfold Rm.sr
        rw [e, hh, hc]
        rfl
      have hk : (s[0].toNat : Int) = 45 := by rw [hc]; rfl
      clear hc
      have hz2 : (s.extract 1 s.size).size = s.size - 1 := by simp
      have hlen : s.data.toList.tail.length = s.size - 1 := by rw [List.length_tail]; omega
      have HN := Lib.hid (fun h : 4 < s.data.toList.tail.length => Rm.num_long h)
      have HD := Lib.hid (fun h : s.data.toList.tail.length ≤ 4 => Rm.dgs_num h)
      have HB := Lib.hid (fun h => Rm.val_9999 (l := s.data.toList.tail) h)
      have HS := Lib.hid hs
      have HL := Lib.hid hlen
      have cD := fun (h : (s.extract 1 s.size).size ≤ 4) w => cD (s.extract 1 s.size) h w
      rw [e1] at cD
      clear hs hh hlen e1 hsz
      obtain ⟨O, hO⟩ : ∃ O, Rm.sr s.data.toList = O := ⟨_, rfl⟩
      rw [hO] at HS ⊢
      clear hO
      by_cases hbig : 4 < s.size - 1
      · have HE : Hid (O = none) := Lib.hid (by rw [HS.out, HN.out (by rw [HL.out]; exact hbig)]; rfl)
        clear cD
        go_enter Tryz.func109, Tryz.ntmps109
        go_wp2
        go_ret2
        exact ⟨_, _, rfl, Or.inr ⟨rfl, HE.out⟩, rfl⟩
      · have cD := cD (by rw [hz2]; omega)
        rw [HD.out (by rw [HL.out]; omega)] at cD
        clear HD HN HL
        generalize Va.num s.data.toList.tail 4 = b at *
        generalize Txt.val s.data.toList.tail 0 = n at *
        rcases b
        · have HE : Hid (O = none) := Lib.hid HS.out
          rw [if_neg (by decide)] at cD
          go_enter Tryz.func109, Tryz.ntmps109
          go_wp2_with (go_at_call 107; refine (cD _).mono ?_; rintro e w' ⟨rfl, rfl⟩)
          go_ret2
          exact ⟨_, _, rfl, Or.inr ⟨rfl, HE.out⟩, rfl⟩
        · have HE : Hid (O = some (-(n : Int))) := Lib.hid HS.out
          have hn := HB.out rfl
          rw [if_pos rfl] at cD
          clear HS HB
          go_enter Tryz.func109, Tryz.ntmps109
          go_wp2_with (go_at_call 107; refine (cD _).mono ?_; rintro e w' ⟨rfl, rfl⟩)
          go_ret2
          exact ⟨-(n : Int), true, rfl, Or.inl ⟨rfl, HE.out, by omega, by omega⟩, rfl⟩
    · have hs : Rm.sr s.data.toList = if Va.num s.data.toList 4 = true then some ((Txt.val s.data.toList 0 : Int)) else none := by
        have e : Rm.sgd s.data.toList = s.data.toList := if_neg (by rw [hh]; simp [ha, hb])
        unfold Rm.sr
        rw [e, hh, show ((some s[0] : Option UInt8) == some 45) = false by rw [beq_eq_false_iff_ne]; simpa using hb]
        rfl
      have hka : ¬ (s[0].toNat : Int) = 43 := fun e => ha (UInt8.toNat_inj.1 (by show s[0].toNat = 43; omega))
      have hkb : ¬ (s[0].toNat : Int) = 45 := fun e => hb (UInt8.toNat_inj.1 (by show s[0].toNat = 45; omega))
      have hla : ((s[0].toNat : Int) == 43) = false := by rw [beq_eq_false_iff_ne]; exact hka
      have hlb : ((s[0].toNat : Int) == 45) = false := by rw [beq_eq_false_iff_ne]; exact hkb
      clear ha hb
      have hlen : s.data.toList.length = s.size := by omega
      have HN := Lib.hid (fun h : 4 < s.data.toList.length => Rm.num_long h)
      have HD := Lib.hid (fun h : s.data.toList.length ≤ 4 => Rm.dgs_num h)
      have HB := Lib.hid (fun h => Rm.val_9999 (l := s.data.toList) h)
      have HS := Lib.hid hs
      have HL := Lib.hid hlen
      have cD := fun (h : (s).size ≤ 4) w => cD (s) h w
      skip
      clear hs hh hlen e1 hsz
      obtain ⟨O, hO⟩ : ∃ O, Rm.sr s.data.toList = O := ⟨_, rfl⟩
      rw [hO] at HS ⊢
      clear hO
      by_cases hbig : 4 < s.size
      · have HE : Hid (O = none) := Lib.hid (by rw [HS.out, HN.out (by rw [HL.out]; exact hbig)]; rfl)
        clear cD
        go_enter Tryz.func109, Tryz.ntmps109
        go_wp2
        go_ret2
        exact ⟨_, _, rfl, Or.inr ⟨rfl, HE.out⟩, rfl⟩
      · have cD := cD (by omega)
        rw [HD.out (by rw [HL.out]; omega)] at cD
        clear HD HN HL
        generalize Va.num s.data.toList 4 = b at *
        generalize Txt.val s.data.toList 0 = n at *
        rcases b
        · have HE : Hid (O = none) := Lib.hid HS.out
          rw [if_neg (by decide)] at cD
          go_enter Tryz.func109, Tryz.ntmps109
          go_wp2_with (go_at_call 107; refine (cD _).mono ?_; rintro e w' ⟨rfl, rfl⟩)
          go_ret2
          exact ⟨_, _, rfl, Or.inr ⟨rfl, HE.out⟩, rfl⟩
        · have HE : Hid (O = some ((n : Int))) := Lib.hid HS.out
          have hn := HB.out rfl
          rw [if_pos rfl] at cD
          clear HS HB
          go_enter Tryz.func109, Tryz.ntmps109
          go_wp2_with (go_at_call 107; refine (cD _).mono ?_; rintro e w' ⟨rfl, rfl⟩)
          go_ret2
          exact ⟨(n : Int), true, rfl, Or.inl ⟨rfl, HE.out, by omega, by omega⟩, rfl⟩
  · obtain rfl : s = ⟨#[]⟩ := by
      have h := Lib.size_eq s
      have h2 : s.data.toList = [] := List.eq_nil_of_length_eq_zero (by omega)
      rw [← Lib.mk_data s, h2]
    have cD := fun w => digits12_any ⟨#[]⟩ w (by decide)
    rw [show Va.dgs (ByteArray.mk #[]).data.toList = -1 from rfl] at cD
    have HE : Hid (Rm.sr (ByteArray.mk #[]).data.toList = none) := Lib.hid rfl
    generalize Rm.sr (ByteArray.mk #[]).data.toList = O at *
    go_enter Tryz.func109, Tryz.ntmps109
    go_wp2_with (go_at_call 107; refine (cD _).mono ?_; rintro e w' ⟨rfl, rfl⟩)
    go_ret2
    exact ⟨_, _, rfl, Or.inr ⟨rfl, HE.out⟩, rfl⟩
end Go.Proofs.YtleeklcpbflfhaaGreatDoor
namespace Go.Proofs.YtleeklcpbflfhaaGreatDoor
open Go.RowKit

/- a list that was read, or none: new memory -/
def LsI (w w' : World) (o : Option (List Int)) (A : Option Addr) (n c : Nat) (q : Bool) : Prop :=
  (q = true ∧ ∃ xs, o = some xs ∧ Nums w' w'.heap.size A n xs ∧ (0 < n → ∀ ad, A = some ad → w.heap.size ≤ ad.block)) ∨ (q = false ∧ o = none ∧ A = none ∧ n = 0 ∧ c = 0)
def LsR (o : Option (List Int)) (w : World) (e : Ending) (w' : World) : Prop :=
  ∃ A n c q, e = .returned (.tuple #[.slice A n c, .bool q]) ∧ Gr w w' ∧ LsI w w' o A n c q
set_option maxHeartbeats 4000000 in
set_option maxRecDepth 100000 in
theorem rlist_any (i : Nat) (hi : i < 8) (s : ByteArray) (w : World) (hs : s.size ≤ 100000) : Calls Tryz.prog 81 #[.int .i64 (i : Int), .string s] w (LsR (Rm.lr (Rm.may i) s.data.toList) w) := by
  have cC := fun w => rcut_any s 44 w hs
  have hcl := Rm.cutB_len 44 s.data.toList
  rw [← Lib.size_eq] at hcl
  have HALL := Lib.hid (Rm.lrF_all (Rm.may i) s.data.toList)
  have HNO := Lib.hid (fun pre (hp : pre <+: Rm.cutB 44 s.data.toList) (h : Rm.lrF (Rm.may i) pre = none) => Rm.lrF_none hp h)
  generalize Rm.lr (Rm.may i) s.data.toList = res at *
  generalize Rm.cutB 44 s.data.toList = ts at *
  go_enter Tryz.func81, Tryz.ntmps81
  go_wp2_with fail
  refine (cC _).mono ?_
  rintro e w1 ⟨A, n, c, rfl, hg1, hS, _⟩
  have HL := Lib.hid hS.1
  have hnb : n ≤ 100001 := by rw [← hS.1]; omega
  clear cC
  go_wp2
  go_loopg [6, 15] n (fun g v6 v wx => ∃ (k m cp : Nat) (B : Option Addr) (xs : List Int), v = .int .i64 (k : Int) ∧ v6 = .slice B m cp ∧ k + g = n ∧ m ≤ k ∧ Hid (Rm.lrF (Rm.may i) (ts.take k) = some xs) ∧ Nums wx wx.heap.size B m xs ∧ (0 < m → ∀ ad, B = some ad → w.heap.size ≤ ad.block) ∧ Gr w1 wx)
  case atStart => exact ⟨0, 0, 0, none, [], rfl, rfl, by omega, Nat.le_refl _, Lib.hid rfl, Nums.nil _ _ _, fun h => absurd h (by omega), Gr.refl _⟩
  case round =>
    obtain ⟨k, m, cp, B, xs, rfl, rfl, hkg, hmk, HF, hN, hfr, hg⟩ := hrel
    have HG := Lib.hid hkg
    clear hkg
    by_cases hk : k < n
    · obtain ⟨ad, hk', rfl, hbl, hc0⟩ := hS.at_ hk
      have d0 := (hg.below.cell (p := ad.add k) (by rw [add_block]; exact hbl)).trans hc0
      have hkn : (k : Int) < (n : Int) := by omega
      have htl := hcl.2 ts[k] (List.getElem_mem hk')
      have cS := fun w => rsgn_any ⟨ts[k].toArray⟩ w (by rw [size_mk]; omega)
      rw [show (ByteArray.mk ts[k].toArray).data.toList = ts[k] from rfl] at cS
      have HTk := Lib.hid (List.take_succ_eq_append_getElem hk')
      have HPre := Lib.hid (show ts.take k ++ [ts[k]] <+: ts by rw [← List.take_succ_eq_append_getElem hk']; exact List.take_prefix _ _)
      clear hc0 htl hS
      generalize ts[k] = x at *
      generalize (ByteArray.mk x.toArray) = X at *
      go_wp2_with fail
      refine (cS _).mono ?_
      rintro e w2 ⟨v, q, rfl, hq, rfl⟩
      rcases hq with ⟨rfl, ho, hv0, hv1⟩ | ⟨rfl, ho⟩
      · have cM := fun w => may_any i hi v w
        rcases hm : Rm.may i v with _ | _
        · rw [hm] at cM
          have HR : Hid (res = none) := Lib.hid (HNO.out _ HPre.out (Rm.lrF_no (fun v' h => by rw [ho] at h; cases h; exact hm)))
          clear ho hm
          go_wp2_with (go_at_call 54; refine (cM _).mono ?_; rintro e w' ⟨rfl, rfl⟩)
          go_ret2
          exact ⟨none, 0, 0, false, rfl, hg1.trans hg, Or.inr ⟨rfl, HR.out, rfl, rfl, rfl⟩⟩
        · rw [hm] at cM
          have HR : Hid (Rm.lrF (Rm.may i) (ts.take (k + 1)) = some (Rm.ins xs v)) := Lib.hid (by rw [HTk.out]; exact Rm.lrF_yes HF.out ho hm)
          have cI := fun w (h : Gr wr w) => rins_any B m cp xs v w (hN.gr h) (by omega)
          have HLn := Lib.hid (Rm.ins_len2 xs v)
          have HNl := Lib.hid hN.1
          clear ho hm
          go_wp2_with (first | (go_at_call 54; refine (cM _).mono ?_; rintro e w' ⟨rfl, rfl⟩) | (go_at_call 111; refine (cI _ (Gr.refl _)).mono ?_; rintro e w3 ⟨B3, m3, c3, rfl, hg3, hN3, hf3⟩))
          go_roundg (n - (k + 1))
          case measure => have := HG.out; omega
          case rel => exact ⟨k + 1, m3, c3, B3, _, by go_num, rfl, by omega, by have h1 := HLn.out; have h2 := HNl.out; have h3 := hN3.1; omega, HR, hN3, fun h ad e => by have := hf3 h ad e; have := hg.lt; have := hg1.lt; omega, hg.trans hg3⟩
      · have HR : Hid (res = none) := Lib.hid (HNO.out _ HPre.out (Rm.lrF_no (fun v' h => by rw [ho] at h; cases h)))
        clear ho
        go_wp2
        go_ret2
        exact ⟨none, 0, 0, false, rfl, hg1.trans hg, Or.inr ⟨rfl, HR.out, rfl, rfl, rfl⟩⟩
    · obtain rfl : k = n := by have := HG.out; omega
      have HR : Hid (res = some xs) := Lib.hid (by rw [← HALL.out, ← HF.out, List.take_of_length_le (by rw [HL.out]; exact Nat.le_refl _)])
      clear hS
      go_wp2
      go_ret2
      exact ⟨B, m, cp, true, rfl, hg1.trans hg, Or.inl ⟨rfl, xs, HR.out, hN, hfr⟩⟩
end Go.Proofs.YtleeklcpbflfhaaGreatDoor
namespace Go.Proofs.YtleeklcpbflfhaaGreatDoor
open Go.RowKit

/- append(out, a weekday) -/
theorem ap_wd {ops : Array Oper} {rest : List Oper} {o : Oper} {a : Act} {Q : Exit → Act → World → Prop} (w : World) (hgd : o.guard = none) (sl x : Operand)
    (ho : o.op = .call { callee := .builtin .append, args := #[sl, x], argTypes := #[25, 25] })
    (B : Nat) (A : Option Addr) (n c : Nat) (xs : List (Int × Int)) (hs : a.eval sl = .slice A n c) (hown : Own2 w B 49 A n c (cel2 dv1 dv2 xs)) (u v : Int) (hx : a.eval x = .slice (some ⟨w.heap.size, 0, none⟩) 1 1)
    (hlen : n + 1 ≤ 1000000) (hB : B ≤ w.heap.size)
    (h : ∀ A' c' w', Own2 w' B 49 A' (n + 1) c' (cel2 dv1 dv2 (xs ++ [(u, v)])) → Below B w w' → wpList Tryz.prog ops Q rest (a.put o.dst (.slice A' (n + 1) c')) w') :
    wpList Tryz.prog ops Q (o :: rest) a (w.alloc (.cells #[.int .i64 u, .int .i64 v] 49)) := by
  obtain ⟨i0, hi, hz0, hz1, hz2⟩ := info_parts info_wd
  have hown2 : (w.alloc (.cells #[.int .i64 u, .int .i64 v] 49)).ownsRow B 49 2 (.slice A n c) n (cel2 dv1 dv2 xs) := World.ownsRow.alloc hown _
  have hsz : (w.alloc (.cells #[.int .i64 u, .int .i64 v] 49)).heap.size = w.heap.size + 1 := by simp
  refine wpList_append_own _ hgd sl x 25 ho B 49 i0 _ 2 16 Tryz.underlying25 hi hz0 hz1 hz2 rfl (by omega) _ n _ hs hown2 ⟨w.heap.size, 0, none⟩ 1 1 [.int .i64 u, .int .i64 v] hx rfl ?_ (by simp [Value.oneCell']) (by unfold maxLen; omega) (by omega) (by omega) ?_
  · intro j y hy
    have hadd : (⟨w.heap.size, 0, none⟩ : Addr).add j = ⟨w.heap.size, j, none⟩ := by unfold Addr.add; split <;> simp_all
    rw [hadd, cell_of_row _ w.heap.size j #[.int .i64 u, .int .i64 v] 49 (0, 0) (heap_alloc_new w _)]
    simpa using hy
  · intro v' w' g1 g2 _
    obtain ⟨A', c', rfl⟩ := own_formK g1
    refine h A' c' w' ?_ (((Below.refl B w).alloc hB _).trans (below_of_own hown2 (by omega) g2))
    rw [cel2_app]
    exact g1
/- what insertDay answers -/
def IdR (w : World) (e : Ending) (w' : World) (l : List (Int × Int)) : Prop :=
  ∃ A' n' c', e = .returned (.slice A' n' c') ∧ Gr w w' ∧ Days w' w'.heap.size A' n' l ∧ (0 < n' → ∀ ad, A' = some ad → w.heap.size ≤ ad.block)
set_option maxHeartbeats 4000000 in
set_option maxRecDepth 100000 in
theorem rinsD_any (A : Option Addr) (n c : Nat) (xs : List (Int × Int)) (t1 t2 : Int) (w : World) (hN : Days w w.heap.size A n xs) (hn : n ≤ 400000) :
    Calls Tryz.prog 110 #[.slice A n c, .agg #[.int .i64 t1, .int .i64 t2]] w fun e w' => IdR w e w' (Rm.insD xs (t1, t2)) := by
  have HL := Lib.hid hN.1
  have hgA : Gr w (w.alloc (.cells #[.int .i64 t1, .int .i64 t2] 49)) := (Gr.refl w).allocO _
  have hN := Pr2.gr hN hgA
  have b0 : (w.alloc (.cells #[.int .i64 t1, .int .i64 t2] 49)).cell? ⟨w.heap.size, 0, none⟩ = some (.int .i64 t1) := by simp
  have b1 : (w.alloc (.cells #[.int .i64 t1, .int .i64 t2] 49)).cell? ⟨w.heap.size, 1, none⟩ = some (.int .i64 t2) := by simp
  have hsz : (w.alloc (.cells #[.int .i64 t1, .int .i64 t2] 49)).heap.size = w.heap.size + 1 := by simp
  have HA := Lib.hid hgA
  go_enter Tryz.func110, Tryz.ntmps110
  go_wp2
  generalize w.alloc (.cells #[.int .i64 t1, .int .i64 t2] 49) = W at *
  go_loopg [5, 6, 10] n (fun g v5 v6 v wx => ∃ (k m cp : Nat) (B : Option Addr), v = .int .i64 (k : Int) ∧ v6 = .bool (Rm.inFD (t1, t2) (xs.take k)).2 ∧ v5 = .slice B m cp ∧ k + g = n ∧ m ≤ 2 * k ∧ Own2 wx W.heap.size 49 B m cp (cel2 dv1 dv2 (Rm.inFD (t1, t2) (xs.take k)).1) ∧ Gr W wx)
  case atStart => exact ⟨0, 0, 0, none, rfl, rfl, rfl, by omega, by omega, Own2.nil _ _ _, Gr.refl _⟩
  case round =>
    obtain ⟨k, m, cp, B, rfl, rfl, rfl, hkg, hmk, ho, hg⟩ := hrel
    have HG := Lib.hid hkg
    clear hkg
    have hszw := hg.lt
    by_cases hk : k < n
    · obtain ⟨ad, hk', rfl, hbl, hc0, hc1⟩ := hN.at_ hk
      have d0 := (hg.below.cell (p := ad.add (k * 2)) (by rw [add_block]; exact hbl)).trans hc0
      have d1 := (hg.below.cell (p := ⟨(ad.add (k * 2)).block, (ad.add (k * 2)).off + 1, none⟩) (by show (ad.add (k * 2)).block < _; rw [add_block]; exact hbl)).trans hc1
      dsimp only [dv1, dv2] at d0 d1
      have c0 := gr_cell hg b0
      have c1 := gr_cell hg b1
      have hkn : (k : Int) < (n : Int) := by omega
      have HS := Lib.hid (show Rm.inFD (t1, t2) (xs.take (k + 1)) = _ by rw [List.take_succ_eq_append_getElem hk', Rm.inFD_snoc])
      have cB := fun w => rbefore_any xs[k].1 xs[k].2 t1 t2 w
      have HX := Lib.hid (show xs[k] = (xs[k].1, xs[k].2) from rfl)
      rw [HX.out] at HS
      clear hc0 hc1 hN HX
      generalize xs[k].1 = x1 at *
      generalize xs[k].2 = x2 at *
      generalize (Rm.inFD (t1, t2) (xs.take k)).2 = dn at *
      generalize (Rm.inFD (t1, t2) (xs.take k)).1 = out at *
      rcases dn with _ | _
      · rcases hbq : Rm.bef (x1, x2) (t1, t2) with _ | _
        · rw [hbq] at cB
          by_cases he1 : x1 = t1
          · subst he1
            by_cases he2 : x2 = t2
            · subst he2
              have v0 := after_cell d0
              have v1 := after_cell d1
              have v2 := after_cell c0
              have v3 := after_cell c1
              have HT : Hid (Rm.inFD (x1, x2) (xs.take (k + 1)) = (out ++ [(x1, x2)], true)) := Lib.hid (by rw [HS.out, hbq]; simp)
              clear HS
              go_upto_region 6 with fail
              refine wp_region_after (by kernel_rfl) (by kernel_rfl) ?_
              repeat (go_big_quiet_step (first | (go_at_call 56; exact qafter (cB _))))
              refine wpQuiet_nil ?_
              rintro w6 ⟨⟨w6b, hw6⟩, hh⟩
              replace hh : w6 = w6b := hh
              subst hh
              have hw6 : Gr wr w6 := hw6
              have ho6 := Own2.gr ho hw6
              have hg6 := hg.trans hw6
              have hsz6 := hg6.lt
              have e0 := gr_cell hw6 d0
              have e1 := gr_cell hw6 d1
              have e2 := gr_cell hw6 c0
              have e3 := gr_cell hw6 c1
              clear v0 v1 v2 v3 d0 d1 c0 c1 ho hg hw6 cB
              go_upto_region 9 with (at_builtin; go_must (refine ap_wd w6 rfl (.tmp 24) (.tmp 26) rfl W.heap.size B m cp out rfl ho6 x1 x2 rfl (by omega) hsz6 ?_); intro A3 c3 w3 ho3 hb3)
              have hg9 : Gr W w3 := ⟨hg6.below.trans hb3⟩
              have f0 := (hb3.cell (p := ad.add (k * 2)) (by rw [add_block]; exact hbl)).trans e0
              have f1 := (hb3.cell (p := ⟨(ad.add (k * 2)).block, (ad.add (k * 2)).off + 1, none⟩) (by show (ad.add (k * 2)).block < _; rw [add_block]; exact hbl)).trans e1
              have f2 := (hb3.cell (p := ⟨w.heap.size, 0, none⟩) (by dsimp only; omega)).trans e2
              have f3 := (hb3.cell (p := ⟨w.heap.size, 1, none⟩) (by dsimp only; omega)).trans e3
              have ho9 := ho3
              have v0 := after_cell f0
              have v1 := after_cell f1
              have v2 := after_cell f2
              have v3 := after_cell f3
              refine wp_region_after (by kernel_rfl) (by kernel_rfl) ?_
              repeat (go_big_quiet_step (fail))
              refine wpQuiet_nil ?_
              rintro w10 ⟨⟨w10b, hw10⟩, hh⟩
              replace hh : w10 = w10b := hh
              subst hh
              have hw10 : Gr w3 w10 := hw10
              have ho10 := Own2.gr ho9 hw10
              have hg10 := hg9.trans hw10
              have hsz10 := hg10.lt
              have g0 := gr_cell hw10 f0
              have g1 := gr_cell hw10 f1
              clear v0 v1 v2 v3 e0 e1 e2 e3 f0 f1 f2 f3
              go_wp2
              go_roundg (n - (k + 1))
              case measure => have := HG.out; omega
              case rel => exact ⟨k + 1, (m + 1), c3, A3, by go_num, by rw [HT.out], rfl, by omega, by omega, by rw [HT.out]; exact ho10, hg10⟩
            · have hxt : ¬ ((x1, x2) = (x1, t2)) := fun e => he2 (congrArg Prod.snd e)
              have v0 := after_cell d0
              have v1 := after_cell d1
              have v2 := after_cell c0
              have v3 := after_cell c1
              have HT : Hid (Rm.inFD (x1, t2) (xs.take (k + 1)) = (out ++ [(x1, t2)] ++ [(x1, x2)], true)) := Lib.hid (by rw [HS.out, hbq]; simp [hxt])
              clear HS
              go_upto_region 6 with fail
              refine wp_region_after (by kernel_rfl) (by kernel_rfl) ?_
              repeat (go_big_quiet_step (first | (go_at_call 56; exact qafter (cB _))))
              refine wpQuiet_nil ?_
              rintro w6 ⟨⟨w6b, hw6⟩, hh⟩
              replace hh : w6 = w6b := hh
              subst hh
              have hw6 : Gr wr w6 := hw6
              have ho6 := Own2.gr ho hw6
              have hg6 := hg.trans hw6
              have hsz6 := hg6.lt
              have e0 := gr_cell hw6 d0
              have e1 := gr_cell hw6 d1
              have e2 := gr_cell hw6 c0
              have e3 := gr_cell hw6 c1
              clear v0 v1 v2 v3 d0 d1 c0 c1 ho hg hw6 cB
              go_upto_region 9 with (at_builtin; go_must (refine ap_wd w6 rfl (.tmp 24) (.tmp 26) rfl W.heap.size B m cp out rfl ho6 x1 t2 rfl (by omega) hsz6 ?_); intro A3 c3 w3 ho3 hb3)
              have hg9 : Gr W w3 := ⟨hg6.below.trans hb3⟩
              have f0 := (hb3.cell (p := ad.add (k * 2)) (by rw [add_block]; exact hbl)).trans e0
              have f1 := (hb3.cell (p := ⟨(ad.add (k * 2)).block, (ad.add (k * 2)).off + 1, none⟩) (by show (ad.add (k * 2)).block < _; rw [add_block]; exact hbl)).trans e1
              have f2 := (hb3.cell (p := ⟨w.heap.size, 0, none⟩) (by dsimp only; omega)).trans e2
              have f3 := (hb3.cell (p := ⟨w.heap.size, 1, none⟩) (by dsimp only; omega)).trans e3
              have ho9 := ho3
              have v0 := after_cell f0
              have v1 := after_cell f1
              have v2 := after_cell f2
              have v3 := after_cell f3
              refine wp_region_after (by kernel_rfl) (by kernel_rfl) ?_
              repeat (go_big_quiet_step (fail))
              refine wpQuiet_nil ?_
              rintro w10 ⟨⟨w10b, hw10⟩, hh⟩
              replace hh : w10 = w10b := hh
              subst hh
              have hw10 : Gr w3 w10 := hw10
              have ho10 := Own2.gr ho9 hw10
              have hg10 := hg9.trans hw10
              have hsz10 := hg10.lt
              have g0 := gr_cell hw10 f0
              have g1 := gr_cell hw10 f1
              clear v0 v1 v2 v3 e0 e1 e2 e3 f0 f1 f2 f3
              go_wp2_with (at_builtin; refine ap_wd w10 rfl (.tmp 34) (.tmp 39) rfl W.heap.size A3 (m + 1) c3 (out ++ [(x1, t2)]) rfl ho10 x1 x2 rfl (by omega) hsz10 ?_; intro A4 c4 w4 ho4 hb4)
              go_roundg (n - (k + 1))
              case measure => have := HG.out; omega
              case rel => exact ⟨k + 1, (m + 1) + 1, c4, A4, by go_num, by rw [HT.out], rfl, by omega, by omega, by rw [HT.out]; exact ho4, ⟨hg10.below.trans hb4⟩⟩
          · have hxt : ¬ ((x1, x2) = (t1, t2)) := fun e => he1 (congrArg Prod.fst e)
            have v0 := after_cell d0
            have v1 := after_cell d1
            have v2 := after_cell c0
            have v3 := after_cell c1
            have HT : Hid (Rm.inFD (t1, t2) (xs.take (k + 1)) = (out ++ [(t1, t2)] ++ [(x1, x2)], true)) := Lib.hid (by rw [HS.out, hbq]; simp [hxt])
            clear HS
            go_upto_region 6 with fail
            refine wp_region_after (by kernel_rfl) (by kernel_rfl) ?_
            repeat (go_big_quiet_step (first | (go_at_call 56; exact qafter (cB _))))
            refine wpQuiet_nil ?_
            rintro w6 ⟨⟨w6b, hw6⟩, hh⟩
            replace hh : w6 = w6b := hh
            subst hh
            have hw6 : Gr wr w6 := hw6
            have ho6 := Own2.gr ho hw6
            have hg6 := hg.trans hw6
            have hsz6 := hg6.lt
            have e0 := gr_cell hw6 d0
            have e1 := gr_cell hw6 d1
            have e2 := gr_cell hw6 c0
            have e3 := gr_cell hw6 c1
            clear v0 v1 v2 v3 d0 d1 c0 c1 ho hg hw6 cB
            go_upto_region 9 with (at_builtin; go_must (refine ap_wd w6 rfl (.tmp 24) (.tmp 26) rfl W.heap.size B m cp out rfl ho6 t1 t2 rfl (by omega) hsz6 ?_); intro A3 c3 w3 ho3 hb3)
            have hg9 : Gr W w3 := ⟨hg6.below.trans hb3⟩
            have f0 := (hb3.cell (p := ad.add (k * 2)) (by rw [add_block]; exact hbl)).trans e0
            have f1 := (hb3.cell (p := ⟨(ad.add (k * 2)).block, (ad.add (k * 2)).off + 1, none⟩) (by show (ad.add (k * 2)).block < _; rw [add_block]; exact hbl)).trans e1
            have f2 := (hb3.cell (p := ⟨w.heap.size, 0, none⟩) (by dsimp only; omega)).trans e2
            have f3 := (hb3.cell (p := ⟨w.heap.size, 1, none⟩) (by dsimp only; omega)).trans e3
            have ho9 := ho3
            have v0 := after_cell f0
            have v1 := after_cell f1
            have v2 := after_cell f2
            have v3 := after_cell f3
            refine wp_region_after (by kernel_rfl) (by kernel_rfl) ?_
            repeat (go_big_quiet_step (fail))
            refine wpQuiet_nil ?_
            rintro w10 ⟨⟨w10b, hw10⟩, hh⟩
            replace hh : w10 = w10b := hh
            subst hh
            have hw10 : Gr w3 w10 := hw10
            have ho10 := Own2.gr ho9 hw10
            have hg10 := hg9.trans hw10
            have hsz10 := hg10.lt
            have g0 := gr_cell hw10 f0
            have g1 := gr_cell hw10 f1
            clear v0 v1 v2 v3 e0 e1 e2 e3 f0 f1 f2 f3
            go_wp2_with (at_builtin; refine ap_wd w10 rfl (.tmp 34) (.tmp 39) rfl W.heap.size A3 (m + 1) c3 (out ++ [(t1, t2)]) rfl ho10 x1 x2 rfl (by omega) hsz10 ?_; intro A4 c4 w4 ho4 hb4)
            go_roundg (n - (k + 1))
            case measure => have := HG.out; omega
            case rel => exact ⟨k + 1, (m + 1) + 1, c4, A4, by go_num, by rw [HT.out], rfl, by omega, by omega, by rw [HT.out]; exact ho4, ⟨hg10.below.trans hb4⟩⟩
        · rw [hbq] at cB
          by_cases he1 : x1 = t1
          · subst he1
            by_cases he2 : x2 = t2
            · subst he2
              have v0 := after_cell d0
              have v1 := after_cell d1
              have v2 := after_cell c0
              have v3 := after_cell c1
              have HT : Hid (Rm.inFD (x1, x2) (xs.take (k + 1)) = (out, false)) := Lib.hid (by rw [HS.out, hbq]; simp)
              clear HS
              go_upto_region 6 with fail
              refine wp_region_after (by kernel_rfl) (by kernel_rfl) ?_
              repeat (go_big_quiet_step (first | (go_at_call 56; exact qafter (cB _))))
              refine wpQuiet_nil ?_
              rintro w6 ⟨⟨w6b, hw6⟩, hh⟩
              replace hh : w6 = w6b := hh
              subst hh
              have hw6 : Gr wr w6 := hw6
              have ho6 := Own2.gr ho hw6
              have hg6 := hg.trans hw6
              have hsz6 := hg6.lt
              have e0 := gr_cell hw6 d0
              have e1 := gr_cell hw6 d1
              have e2 := gr_cell hw6 c0
              have e3 := gr_cell hw6 c1
              clear v0 v1 v2 v3 d0 d1 c0 c1 ho hg hw6 cB
              go_upto_region 9 with fail
              have hg9 := hg6
              have f0 := e0
              have f1 := e1
              have f2 := e2
              have f3 := e3
              have ho9 := ho6
              have v0 := after_cell f0
              have v1 := after_cell f1
              have v2 := after_cell f2
              have v3 := after_cell f3
              refine wp_region_after (by kernel_rfl) (by kernel_rfl) ?_
              repeat (go_big_quiet_step (fail))
              refine wpQuiet_nil ?_
              rintro w10 ⟨⟨w10b, hw10⟩, hh⟩
              replace hh : w10 = w10b := hh
              subst hh
              have hw10 : Gr w6 w10 := hw10
              have ho10 := Own2.gr ho9 hw10
              have hg10 := hg9.trans hw10
              have hsz10 := hg10.lt
              have g0 := gr_cell hw10 f0
              have g1 := gr_cell hw10 f1
              clear v0 v1 v2 v3 e0 e1 e2 e3 f0 f1 f2 f3
              go_wp2
              go_roundg (n - (k + 1))
              case measure => have := HG.out; omega
              case rel => exact ⟨k + 1, m, cp, B, by go_num, by rw [HT.out], rfl, by omega, by omega, by rw [HT.out]; exact ho10, hg10⟩
            · have hxt : ¬ ((x1, x2) = (x1, t2)) := fun e => he2 (congrArg Prod.snd e)
              have v0 := after_cell d0
              have v1 := after_cell d1
              have v2 := after_cell c0
              have v3 := after_cell c1
              have HT : Hid (Rm.inFD (x1, t2) (xs.take (k + 1)) = (out ++ [(x1, x2)], false)) := Lib.hid (by rw [HS.out, hbq]; simp [hxt])
              clear HS
              go_upto_region 6 with fail
              refine wp_region_after (by kernel_rfl) (by kernel_rfl) ?_
              repeat (go_big_quiet_step (first | (go_at_call 56; exact qafter (cB _))))
              refine wpQuiet_nil ?_
              rintro w6 ⟨⟨w6b, hw6⟩, hh⟩
              replace hh : w6 = w6b := hh
              subst hh
              have hw6 : Gr wr w6 := hw6
              have ho6 := Own2.gr ho hw6
              have hg6 := hg.trans hw6
              have hsz6 := hg6.lt
              have e0 := gr_cell hw6 d0
              have e1 := gr_cell hw6 d1
              have e2 := gr_cell hw6 c0
              have e3 := gr_cell hw6 c1
              clear v0 v1 v2 v3 d0 d1 c0 c1 ho hg hw6 cB
              go_upto_region 9 with fail
              have hg9 := hg6
              have f0 := e0
              have f1 := e1
              have f2 := e2
              have f3 := e3
              have ho9 := ho6
              have v0 := after_cell f0
              have v1 := after_cell f1
              have v2 := after_cell f2
              have v3 := after_cell f3
              refine wp_region_after (by kernel_rfl) (by kernel_rfl) ?_
              repeat (go_big_quiet_step (fail))
              refine wpQuiet_nil ?_
              rintro w10 ⟨⟨w10b, hw10⟩, hh⟩
              replace hh : w10 = w10b := hh
              subst hh
              have hw10 : Gr w6 w10 := hw10
              have ho10 := Own2.gr ho9 hw10
              have hg10 := hg9.trans hw10
              have hsz10 := hg10.lt
              have g0 := gr_cell hw10 f0
              have g1 := gr_cell hw10 f1
              clear v0 v1 v2 v3 e0 e1 e2 e3 f0 f1 f2 f3
              go_wp2_with (at_builtin; refine ap_wd w10 rfl (.tmp 34) (.tmp 39) rfl W.heap.size B m cp out rfl ho10 x1 x2 rfl (by omega) hsz10 ?_; intro A4 c4 w4 ho4 hb4)
              go_roundg (n - (k + 1))
              case measure => have := HG.out; omega
              case rel => exact ⟨k + 1, m + 1, c4, A4, by go_num, by rw [HT.out], rfl, by omega, by omega, by rw [HT.out]; exact ho4, ⟨hg10.below.trans hb4⟩⟩
          · have hxt : ¬ ((x1, x2) = (t1, t2)) := fun e => he1 (congrArg Prod.fst e)
            have v0 := after_cell d0
            have v1 := after_cell d1
            have v2 := after_cell c0
            have v3 := after_cell c1
            have HT : Hid (Rm.inFD (t1, t2) (xs.take (k + 1)) = (out ++ [(x1, x2)], false)) := Lib.hid (by rw [HS.out, hbq]; simp [hxt])
            clear HS
            go_upto_region 6 with fail
            refine wp_region_after (by kernel_rfl) (by kernel_rfl) ?_
            repeat (go_big_quiet_step (first | (go_at_call 56; exact qafter (cB _))))
            refine wpQuiet_nil ?_
            rintro w6 ⟨⟨w6b, hw6⟩, hh⟩
            replace hh : w6 = w6b := hh
            subst hh
            have hw6 : Gr wr w6 := hw6
            have ho6 := Own2.gr ho hw6
            have hg6 := hg.trans hw6
            have hsz6 := hg6.lt
            have e0 := gr_cell hw6 d0
            have e1 := gr_cell hw6 d1
            have e2 := gr_cell hw6 c0
            have e3 := gr_cell hw6 c1
            clear v0 v1 v2 v3 d0 d1 c0 c1 ho hg hw6 cB
            go_upto_region 9 with fail
            have hg9 := hg6
            have f0 := e0
            have f1 := e1
            have f2 := e2
            have f3 := e3
            have ho9 := ho6
            have v0 := after_cell f0
            have v1 := after_cell f1
            have v2 := after_cell f2
            have v3 := after_cell f3
            refine wp_region_after (by kernel_rfl) (by kernel_rfl) ?_
            repeat (go_big_quiet_step (fail))
            refine wpQuiet_nil ?_
            rintro w10 ⟨⟨w10b, hw10⟩, hh⟩
            replace hh : w10 = w10b := hh
            subst hh
            have hw10 : Gr w6 w10 := hw10
            have ho10 := Own2.gr ho9 hw10
            have hg10 := hg9.trans hw10
            have hsz10 := hg10.lt
            have g0 := gr_cell hw10 f0
            have g1 := gr_cell hw10 f1
            clear v0 v1 v2 v3 e0 e1 e2 e3 f0 f1 f2 f3
            go_wp2_with (at_builtin; refine ap_wd w10 rfl (.tmp 34) (.tmp 39) rfl W.heap.size B m cp out rfl ho10 x1 x2 rfl (by omega) hsz10 ?_; intro A4 c4 w4 ho4 hb4)
            go_roundg (n - (k + 1))
            case measure => have := HG.out; omega
            case rel => exact ⟨k + 1, m + 1, c4, A4, by go_num, by rw [HT.out], rfl, by omega, by omega, by rw [HT.out]; exact ho4, ⟨hg10.below.trans hb4⟩⟩
      · generalize hbq : Rm.bef (x1, x2) (t1, t2) = bq at *
        by_cases he1 : x1 = t1
        · subst he1
          by_cases he2 : x2 = t2
          · subst he2
            have v0 := after_cell d0
            have v1 := after_cell d1
            have v2 := after_cell c0
            have v3 := after_cell c1
            have HT : Hid (Rm.inFD (x1, x2) (xs.take (k + 1)) = (out, true)) := Lib.hid (by rw [HS.out]; simp)
            clear HS
            go_upto_region 6 with fail
            refine wp_region_after (by kernel_rfl) (by kernel_rfl) ?_
            repeat (go_big_quiet_step (first | (go_at_call 56; exact qafter (cB _))))
            refine wpQuiet_nil ?_
            rintro w6 ⟨⟨w6b, hw6⟩, hh⟩
            replace hh : w6 = w6b := hh
            subst hh
            have hw6 : Gr wr w6 := hw6
            have ho6 := Own2.gr ho hw6
            have hg6 := hg.trans hw6
            have hsz6 := hg6.lt
            have e0 := gr_cell hw6 d0
            have e1 := gr_cell hw6 d1
            have e2 := gr_cell hw6 c0
            have e3 := gr_cell hw6 c1
            clear v0 v1 v2 v3 d0 d1 c0 c1 ho hg hw6 cB
            go_upto_region 9 with fail
            have hg9 := hg6
            have f0 := e0
            have f1 := e1
            have f2 := e2
            have f3 := e3
            have ho9 := ho6
            have v0 := after_cell f0
            have v1 := after_cell f1
            have v2 := after_cell f2
            have v3 := after_cell f3
            refine wp_region_after (by kernel_rfl) (by kernel_rfl) ?_
            repeat (go_big_quiet_step (fail))
            refine wpQuiet_nil ?_
            rintro w10 ⟨⟨w10b, hw10⟩, hh⟩
            replace hh : w10 = w10b := hh
            subst hh
            have hw10 : Gr w6 w10 := hw10
            have ho10 := Own2.gr ho9 hw10
            have hg10 := hg9.trans hw10
            have hsz10 := hg10.lt
            have g0 := gr_cell hw10 f0
            have g1 := gr_cell hw10 f1
            clear v0 v1 v2 v3 e0 e1 e2 e3 f0 f1 f2 f3
            go_wp2
            go_roundg (n - (k + 1))
            case measure => have := HG.out; omega
            case rel => exact ⟨k + 1, m, cp, B, by go_num, by rw [HT.out], rfl, by omega, by omega, by rw [HT.out]; exact ho10, hg10⟩
          · have hxt : ¬ ((x1, x2) = (x1, t2)) := fun e => he2 (congrArg Prod.snd e)
            have v0 := after_cell d0
            have v1 := after_cell d1
            have v2 := after_cell c0
            have v3 := after_cell c1
            have HT : Hid (Rm.inFD (x1, t2) (xs.take (k + 1)) = (out ++ [(x1, x2)], true)) := Lib.hid (by rw [HS.out]; simp [hxt])
            clear HS
            go_upto_region 6 with fail
            refine wp_region_after (by kernel_rfl) (by kernel_rfl) ?_
            repeat (go_big_quiet_step (first | (go_at_call 56; exact qafter (cB _))))
            refine wpQuiet_nil ?_
            rintro w6 ⟨⟨w6b, hw6⟩, hh⟩
            replace hh : w6 = w6b := hh
            subst hh
            have hw6 : Gr wr w6 := hw6
            have ho6 := Own2.gr ho hw6
            have hg6 := hg.trans hw6
            have hsz6 := hg6.lt
            have e0 := gr_cell hw6 d0
            have e1 := gr_cell hw6 d1
            have e2 := gr_cell hw6 c0
            have e3 := gr_cell hw6 c1
            clear v0 v1 v2 v3 d0 d1 c0 c1 ho hg hw6 cB
            go_upto_region 9 with fail
            have hg9 := hg6
            have f0 := e0
            have f1 := e1
            have f2 := e2
            have f3 := e3
            have ho9 := ho6
            have v0 := after_cell f0
            have v1 := after_cell f1
            have v2 := after_cell f2
            have v3 := after_cell f3
            refine wp_region_after (by kernel_rfl) (by kernel_rfl) ?_
            repeat (go_big_quiet_step (fail))
            refine wpQuiet_nil ?_
            rintro w10 ⟨⟨w10b, hw10⟩, hh⟩
            replace hh : w10 = w10b := hh
            subst hh
            have hw10 : Gr w6 w10 := hw10
            have ho10 := Own2.gr ho9 hw10
            have hg10 := hg9.trans hw10
            have hsz10 := hg10.lt
            have g0 := gr_cell hw10 f0
            have g1 := gr_cell hw10 f1
            clear v0 v1 v2 v3 e0 e1 e2 e3 f0 f1 f2 f3
            go_wp2_with (at_builtin; refine ap_wd w10 rfl (.tmp 34) (.tmp 39) rfl W.heap.size B m cp out rfl ho10 x1 x2 rfl (by omega) hsz10 ?_; intro A4 c4 w4 ho4 hb4)
            go_roundg (n - (k + 1))
            case measure => have := HG.out; omega
            case rel => exact ⟨k + 1, m + 1, c4, A4, by go_num, by rw [HT.out], rfl, by omega, by omega, by rw [HT.out]; exact ho4, ⟨hg10.below.trans hb4⟩⟩
        · have hxt : ¬ ((x1, x2) = (t1, t2)) := fun e => he1 (congrArg Prod.fst e)
          have v0 := after_cell d0
          have v1 := after_cell d1
          have v2 := after_cell c0
          have v3 := after_cell c1
          have HT : Hid (Rm.inFD (t1, t2) (xs.take (k + 1)) = (out ++ [(x1, x2)], true)) := Lib.hid (by rw [HS.out]; simp [hxt])
          clear HS
          go_upto_region 6 with fail
          refine wp_region_after (by kernel_rfl) (by kernel_rfl) ?_
          repeat (go_big_quiet_step (first | (go_at_call 56; exact qafter (cB _))))
          refine wpQuiet_nil ?_
          rintro w6 ⟨⟨w6b, hw6⟩, hh⟩
          replace hh : w6 = w6b := hh
          subst hh
          have hw6 : Gr wr w6 := hw6
          have ho6 := Own2.gr ho hw6
          have hg6 := hg.trans hw6
          have hsz6 := hg6.lt
          have e0 := gr_cell hw6 d0
          have e1 := gr_cell hw6 d1
          have e2 := gr_cell hw6 c0
          have e3 := gr_cell hw6 c1
          clear v0 v1 v2 v3 d0 d1 c0 c1 ho hg hw6 cB
          go_upto_region 9 with fail
          have hg9 := hg6
          have f0 := e0
          have f1 := e1
          have f2 := e2
          have f3 := e3
          have ho9 := ho6
          have v0 := after_cell f0
          have v1 := after_cell f1
          have v2 := after_cell f2
          have v3 := after_cell f3
          refine wp_region_after (by kernel_rfl) (by kernel_rfl) ?_
          repeat (go_big_quiet_step (fail))
          refine wpQuiet_nil ?_
          rintro w10 ⟨⟨w10b, hw10⟩, hh⟩
          replace hh : w10 = w10b := hh
          subst hh
          have hw10 : Gr w6 w10 := hw10
          have ho10 := Own2.gr ho9 hw10
          have hg10 := hg9.trans hw10
          have hsz10 := hg10.lt
          have g0 := gr_cell hw10 f0
          have g1 := gr_cell hw10 f1
          clear v0 v1 v2 v3 e0 e1 e2 e3 f0 f1 f2 f3
          go_wp2_with (at_builtin; refine ap_wd w10 rfl (.tmp 34) (.tmp 39) rfl W.heap.size B m cp out rfl ho10 x1 x2 rfl (by omega) hsz10 ?_; intro A4 c4 w4 ho4 hb4)
          go_roundg (n - (k + 1))
          case measure => have := HG.out; omega
          case rel => exact ⟨k + 1, m + 1, c4, A4, by go_num, by rw [HT.out], rfl, by omega, by omega, by rw [HT.out]; exact ho4, ⟨hg10.below.trans hb4⟩⟩
    · obtain rfl : k = n := by have := HG.out; omega
      rw [List.take_of_length_le (by rw [HL.out]; exact Nat.le_refl _)] at ho ⊢
      have HF := Lib.hid (Rm.inFD_all (t1, t2) xs)
      generalize (Rm.inFD (t1, t2) xs).2 = dn at *
      generalize (Rm.inFD (t1, t2) xs).1 = out at *
      have c0 := gr_cell hg b0
      have c1 := gr_cell hg b1
      clear hN
      rcases dn with _ | _
      · go_wp2_with (at_builtin; refine ap_wd wr rfl (.tmp 44) (.tmp 46) rfl W.heap.size B m cp out rfl ho t1 t2 rfl (by omega) hszw ?_; intro A3 c3 w3 ho3 hb3)
        go_ret
        have e : out ++ [(t1, t2)] = Rm.insD xs (t1, t2) := by rw [← HF.out]; rfl
        rw [e] at ho3
        exact ⟨A3, m + 1, c3, rfl, hgA.trans ⟨hg.below.trans hb3⟩, ho3.pr, fun _ ad e => by have := (own2_block ho3 ad e).1; omega⟩
      · go_wp2
        go_ret
        have e : out = Rm.insD xs (t1, t2) := by rw [← HF.out]; rfl
        rw [e] at ho
        exact ⟨B, m, cp, rfl, hgA.trans hg, ho.pr, fun _ ad e => by have := (own2_block ho ad e).1; omega⟩
end Go.Proofs.YtleeklcpbflfhaaGreatDoor
namespace Go.Proofs.YtleeklcpbflfhaaGreatDoor
open Go.RowKit

namespace Rm
theorem dr_less {l : List UInt8} (h : l.length < 2) : dr l = none := if_pos h
theorem dr_two {l : List UInt8} (h : l.length = 2) : dr l = if mayD (0, which (l.drop (l.length - 2))) = true then some (0, which (l.drop (l.length - 2))) else none := by
  unfold dr
  rw [if_neg (by omega)]
  have e : l.take (l.length - 2) = [] := by rw [h]; rfl
  rw [e]
  rfl
end Rm
def LsD (w w' : World) (o : Option (List (Int × Int))) (A : Option Addr) (n c : Nat) (q : Bool) : Prop :=
  (q = true ∧ ∃ xs, o = some xs ∧ Days w' w'.heap.size A n xs ∧ (0 < n → ∀ ad, A = some ad → w.heap.size ≤ ad.block)) ∨ (q = false ∧ o = none ∧ A = none ∧ n = 0 ∧ c = 0)
def LdR (o : Option (List (Int × Int))) (w : World) (e : Ending) (w' : World) : Prop :=
  ∃ A n c q, e = .returned (.tuple #[.slice A n c, .bool q]) ∧ Gr w w' ∧ LsD w w' o A n c q
set_option maxHeartbeats 4000000 in
set_option maxRecDepth 100000 in
theorem rlistD_any (s : ByteArray) (w : World) (hs : s.size ≤ 100000) : Calls Tryz.prog 80 #[.string s] w (LdR (Rm.ldr s.data.toList) w) := by
  have cC := fun w => rcut_any s 44 w hs
  have hcl := Rm.cutB_len 44 s.data.toList
  rw [← Lib.size_eq] at hcl
  have HALL := Lib.hid (Rm.ldrF_all s.data.toList)
  have HNO := Lib.hid (fun pre (hp : pre <+: Rm.cutB 44 s.data.toList) (h : Rm.ldrF pre = none) => Rm.ldrF_none hp h)
  generalize Rm.ldr s.data.toList = res at *
  generalize Rm.cutB 44 s.data.toList = ts at *
  go_enter Tryz.func80, Tryz.ntmps80
  go_wp2_with fail
  refine (cC _).mono ?_
  rintro e w1 ⟨A, n, c, rfl, hg1, hS, _⟩
  have HL := Lib.hid hS.1
  have hnb : n ≤ 100001 := by rw [← hS.1]; omega
  clear cC
  go_wp2
  go_loopg [4, 15] n (fun g v6 v wx => ∃ (k m cp : Nat) (B : Option Addr) (xs : List (Int × Int)), v = .int .i64 (k : Int) ∧ v6 = .slice B m cp ∧ k + g = n ∧ m ≤ k ∧ Hid (Rm.ldrF (ts.take k) = some xs) ∧ Days wx wx.heap.size B m xs ∧ (0 < m → ∀ ad, B = some ad → w.heap.size ≤ ad.block) ∧ Gr w1 wx)
  case atStart => exact ⟨0, 0, 0, none, [], rfl, rfl, by omega, Nat.le_refl _, Lib.hid rfl, Pr2.nil _ _ _, fun h => absurd h (by omega), Gr.refl _⟩
  case round =>
    obtain ⟨k, m, cp, B, xs, rfl, rfl, hkg, hmk, HF, hN, hfr, hg⟩ := hrel
    have HG := Lib.hid hkg
    clear hkg
    by_cases hk : k < n
    · obtain ⟨ad, hk', rfl, hbl, hc0⟩ := hS.at_ hk
      have d0 := (hg.below.cell (p := ad.add k) (by rw [add_block]; exact hbl)).trans hc0
      have hkn : (k : Int) < (n : Int) := by omega
      have htl := hcl.2 ts[k] (List.getElem_mem hk')
      have hXs := size_mk ts[k]
      have cW := fun w => rwhich_any ((ByteArray.mk ts[k].toArray).extract ((ByteArray.mk ts[k].toArray).size - 2) (ByteArray.mk ts[k].toArray).size) w
      have cS := fun w => rsgn_any ((ByteArray.mk ts[k].toArray).extract 0 ((ByteArray.mk ts[k].toArray).size - 2)) w (by rw [ByteArray.size_extract]; omega)
      have e1 : ((ByteArray.mk ts[k].toArray).extract ((ByteArray.mk ts[k].toArray).size - 2) (ByteArray.mk ts[k].toArray).size).data.toList = ts[k].drop (ts[k].length - 2) := by rw [extract_from, hXs]
      have e2 : ((ByteArray.mk ts[k].toArray).extract 0 ((ByteArray.mk ts[k].toArray).size - 2)).data.toList = ts[k].take (ts[k].length - 2) := by rw [extract_to, hXs]
      rw [e1] at cW
      rw [e2] at cS
      have HTk := Lib.hid (List.take_succ_eq_append_getElem hk')
      have HPre := Lib.hid (show ts.take k ++ [ts[k]] <+: ts by rw [← List.take_succ_eq_append_getElem hk']; exact List.take_prefix _ _)
      clear hc0 hS e1 e2
      generalize ts[k] = x at *
      generalize hX : (ByteArray.mk x.toArray) = X at *
      clear hX
      by_cases hlt : x.length < 2
      · have HR : Hid (res = none) := Lib.hid (HNO.out _ HPre.out (Rm.ldrF_no (Rm.dr_less hlt)))
        have hz : (X.size : Int) < 2 := by omega
        clear cW cS
        go_wp2
        go_ret2
        exact ⟨none, 0, 0, false, rfl, hg1.trans hg, Or.inr ⟨rfl, HR.out, rfl, rfl, rfl⟩⟩
      · by_cases heq : x.length = 2
        · have HD := Lib.hid (Rm.dr_two heq)
          have hz : (X.size : Int) = 2 := by omega
          have hz2 : X.size = 2 := by omega
          rw [hz2] at cW
          generalize Rm.which (x.drop (x.length - 2)) = wh at *
          clear cS
          have x0 : (wr.alloc (.cells #[.int .i64 0, .int .i64 wh] 49)).cell? ⟨wr.heap.size, 0, none⟩ = some (.int .i64 0) := by simp
          have x1 : (wr.alloc (.cells #[.int .i64 0, .int .i64 wh] 49)).cell? ⟨wr.heap.size, 1, none⟩ = some (.int .i64 wh) := by simp
          have hgB : Gr wr (wr.alloc (.cells #[.int .i64 0, .int .i64 wh] 49)) := (Gr.refl wr).allocO _
          have cM := fun w => rmayDay_any 0 wh w
          rcases hm : Rm.mayD (0, wh) with _ | _
          · rw [hm] at cM
            have HR : Hid (res = none) := Lib.hid (HNO.out _ HPre.out (Rm.ldrF_no (by rw [HD.out, if_neg (by simp [hm])])))
            clear hm HD
            go_wp2_with (first | (go_at_call 79; refine (cW _).mono ?_; rintro e w' ⟨rfl, rfl⟩) | (go_at_call 55; refine (cM _).mono ?_; rintro e w3 ⟨rfl, hg3⟩))
            go_ret2
            exact ⟨none, 0, 0, false, rfl, ((hg1.trans hg).trans hgB).trans hg3, Or.inr ⟨rfl, HR.out, rfl, rfl, rfl⟩⟩
          · rw [hm] at cM
            have HR : Hid (Rm.ldrF (ts.take (k + 1)) = some (Rm.insD xs (0, wh))) := Lib.hid (by rw [HTk.out]; exact Rm.ldrF_yes HF.out (by rw [HD.out, if_pos hm]))
            have cI := fun w (h : Gr wr w) => rinsD_any B m cp xs 0 wh w (Pr2.gr hN h) (by omega)
            have HLn := Lib.hid (Rm.insD_len2 xs (0, wh))
            have HNl := Lib.hid hN.1
            clear hm HD
            go_wp2_with (first | (go_at_call 79; refine (cW _).mono ?_; rintro e w' ⟨rfl, rfl⟩) | (go_at_call 55; refine (cM _).mono ?_; rintro e w3 ⟨rfl, hg3⟩; have y0 := gr_cell hg3 x0; have y1 := gr_cell hg3 x1; have hg03 := hgB.trans hg3) | (go_at_call 110; refine (cI _ hg03).mono ?_; rintro e w4 ⟨B3, m3, c3, rfl, hg4, hN4, hf4⟩))
            go_roundg (n - (k + 1))
            case measure => have := HG.out; omega
            case rel => exact ⟨k + 1, m3, c3, B3, _, by go_num, rfl, by omega, by have h1 := HLn.out; have h2 := HNl.out; have h3 := hN4.1; omega, HR, hN4, fun h ad e => by have := hf4 h ad e; have := hg.lt; have := hg1.lt; have := hg03.lt; omega, (hg.trans hg03).trans hg4⟩
        · have HD := Lib.hid (Rm.dr_long (l := x) (by omega))
          have hz : (2 : Int) < (X.size : Int) := by omega
          have hzb : (X.size : Int) ≤ 100000 := by omega
          have HZ := Lib.hid (show ((X.size : Int) - 2).toNat = X.size - 2 by omega)
          generalize Rm.which (x.drop (x.length - 2)) = wh at *
          rw [hXs] at cW cS
          have hgA : Gr wr (wr.alloc (.cells #[.int .i64 0, .int .i64 wh] 49)) := (Gr.refl wr).allocO _
          go_wp2_with fail
          refine (cW _).mono ?_
          rintro e w' ⟨rfl, rfl⟩
          go_wp2_with fail
          refine (cS _).mono ?_
          rintro e w' ⟨v, q, rfl, hq, rfl⟩
          rcases hq with ⟨rfl, ho, _, _⟩ | ⟨rfl, ho⟩
          · have HDv := Lib.hid (show Rm.dr x = if (v != 0) = true ∧ Rm.mayD (v, wh) = true then some (v, wh) else none by rw [HD.out, ho])
            rcases hnz : (v != 0) with _ | _
            · have HR : Hid (res = none) := Lib.hid (HNO.out _ HPre.out (Rm.ldrF_no (by rw [HDv.out, if_neg (by rw [hnz]; exact fun h => Bool.noConfusion h.1)])))
              have hv0 : v = 0 := by simpa using hnz
              clear ho HD HDv hnz
              subst hv0
              go_wp2
              go_ret2
              exact ⟨none, 0, 0, false, rfl, (hg1.trans hg).trans hgA, Or.inr ⟨rfl, HR.out, rfl, rfl, rfl⟩⟩
            · have hv0 : ¬ v = 0 := by simpa using hnz
              clear ho
              have x0 : (wr.alloc (.cells #[.int .i64 v, .int .i64 wh] 49)).cell? ⟨wr.heap.size, 0, none⟩ = some (.int .i64 v) := by simp
              have x1 : (wr.alloc (.cells #[.int .i64 v, .int .i64 wh] 49)).cell? ⟨wr.heap.size, 1, none⟩ = some (.int .i64 wh) := by simp
              have hgB : Gr wr (wr.alloc (.cells #[.int .i64 v, .int .i64 wh] 49)) := (Gr.refl wr).allocO _
              have cM := fun w => rmayDay_any v wh w
              rcases hm : Rm.mayD (v, wh) with _ | _
              · rw [hm] at cM
                have HR : Hid (res = none) := Lib.hid (HNO.out _ HPre.out (Rm.ldrF_no (by rw [HDv.out, if_neg (by rw [hm]; exact fun h => Bool.noConfusion h.2)])))
                clear hm HD HDv hnz
                go_wp2_with (first | (fail) | (go_at_call 55; refine (cM _).mono ?_; rintro e w3 ⟨rfl, hg3⟩))
                go_ret2
                exact ⟨none, 0, 0, false, rfl, ((hg1.trans hg).trans hgB).trans hg3, Or.inr ⟨rfl, HR.out, rfl, rfl, rfl⟩⟩
              · rw [hm] at cM
                have HR : Hid (Rm.ldrF (ts.take (k + 1)) = some (Rm.insD xs (v, wh))) := Lib.hid (by rw [HTk.out]; exact Rm.ldrF_yes HF.out (by rw [HDv.out, if_pos ⟨hnz, hm⟩]))
                have cI := fun w (h : Gr wr w) => rinsD_any B m cp xs v wh w (Pr2.gr hN h) (by omega)
                have HLn := Lib.hid (Rm.insD_len2 xs (v, wh))
                have HNl := Lib.hid hN.1
                clear hm HD HDv hnz
                go_wp2_with (first | (fail) | (go_at_call 55; refine (cM _).mono ?_; rintro e w3 ⟨rfl, hg3⟩; have y0 := gr_cell hg3 x0; have y1 := gr_cell hg3 x1; have hg03 := hgB.trans hg3) | (go_at_call 110; refine (cI _ hg03).mono ?_; rintro e w4 ⟨B3, m3, c3, rfl, hg4, hN4, hf4⟩))
                go_roundg (n - (k + 1))
                case measure => have := HG.out; omega
                case rel => exact ⟨k + 1, m3, c3, B3, _, by go_num, rfl, by omega, by have h1 := HLn.out; have h2 := HNl.out; have h3 := hN4.1; omega, HR, hN4, fun h ad e => by have := hf4 h ad e; have := hg.lt; have := hg1.lt; have := hg03.lt; omega, (hg.trans hg03).trans hg4⟩
          · have HR : Hid (res = none) := Lib.hid (HNO.out _ HPre.out (Rm.ldrF_no (by rw [HD.out, ho])))
            clear ho HD
            go_wp2
            go_ret2
            exact ⟨none, 0, 0, false, rfl, (hg1.trans hg).trans hgA, Or.inr ⟨rfl, HR.out, rfl, rfl, rfl⟩⟩
    · obtain rfl : k = n := by have := HG.out; omega
      have HR : Hid (res = some xs) := Lib.hid (by rw [← HALL.out, ← HF.out, List.take_of_length_le (by rw [HL.out]; exact Nat.le_refl _)])
      clear hS
      go_wp2
      go_ret2
      exact ⟨B, m, cp, true, rfl, hg1.trans hg, Or.inl ⟨rfl, xs, HR.out, hN, hfr⟩⟩
end Go.Proofs.YtleeklcpbflfhaaGreatDoor
namespace Go.Proofs.YtleeklcpbflfhaaGreatDoor
open Go.RowKit

def CnR (o : Option Int) (w : World) (e : Ending) (w' : World) : Prop :=
  ∃ v q, e = .returned (.tuple #[.int .i64 v, .bool q]) ∧ ((q = true ∧ o = some v) ∨ (q = false ∧ o = none)) ∧ w = w'
set_option maxRecDepth 100000 in
set_option maxHeartbeats 4000000 in
theorem rcount_any (s : ByteArray) (w : World) (hl : s.size ≤ 100000) :
    Calls Tryz.prog 77 #[.string s] w (CnR (Rm.cntR s.data.toList) w) := by
  have HC := Lib.hid (show Rm.cntR s.data.toList = if Va.num s.data.toList 4 = true ∧ 1 ≤ Txt.val s.data.toList 0 ∧ Txt.val s.data.toList 0 ≤ 1000 then some (Txt.val s.data.toList 0 : Int) else none from rfl)
  have hsz := Lib.size_eq s
  have HN := Lib.hid (fun h : 4 < s.data.toList.length => Rm.num_long h)
  have HD := Lib.hid (fun h : s.data.toList.length ≤ 4 => Rm.dgs_num h)
  have HB := Lib.hid (fun h => Rm.val_9999 (l := s.data.toList) h)
  by_cases hbig : 4 < s.size
  · have HE : Hid (Rm.cntR s.data.toList = none) := Lib.hid (by rw [HC.out, if_neg (fun h => by rw [HN.out (by omega)] at h; cases h.1)])
    generalize Rm.cntR s.data.toList = O at *
    clear HC HN HD HB hsz
    go_enter Tryz.func77, Tryz.ntmps77
    go_wp2
    go_ret2
    exact ⟨_, _, rfl, Or.inr ⟨rfl, HE.out⟩, rfl⟩
  · have cD := fun w => digits12_any s w (by omega)
    rw [HD.out (by omega)] at cD
    clear HD HN hsz
    generalize Rm.cntR s.data.toList = O at *
    generalize Va.num s.data.toList 4 = b at *
    generalize Txt.val s.data.toList 0 = n at *
    rcases b
    · have HE : Hid (O = none) := Lib.hid (by rw [HC.out, if_neg (fun h => by cases h.1)])
      rw [if_neg (by decide)] at cD
      clear HC HB
      go_enter Tryz.func77, Tryz.ntmps77
      go_wp2_with (go_at_call 107; refine (cD _).mono ?_; rintro e w' ⟨rfl, rfl⟩)
      go_ret2
      exact ⟨_, _, rfl, Or.inr ⟨rfl, HE.out⟩, rfl⟩
    · have hn := HB.out rfl
      rw [if_pos rfl] at cD
      by_cases h1 : 1 ≤ n ∧ n ≤ 1000
      · have HE : Hid (O = some (n : Int)) := Lib.hid (by rw [HC.out, if_pos ⟨rfl, h1⟩])
        obtain ⟨h2, h3⟩ := h1
        have h4 : (1 : Int) ≤ (n : Int) := by omega
        have h5 : (n : Int) ≤ 1000 := by omega
        clear HC HB
        go_enter Tryz.func77, Tryz.ntmps77
        go_wp2_with (go_at_call 107; refine (cD _).mono ?_; rintro e w' ⟨rfl, rfl⟩)
        go_ret2
        exact ⟨(n : Int), true, rfl, Or.inl ⟨rfl, HE.out⟩, rfl⟩
      · have HE : Hid (O = none) := Lib.hid (by rw [HC.out, if_neg (fun h => h1 h.2)])
        clear HC HB
        by_cases h2 : 1 ≤ n
        · have h4 : (1 : Int) ≤ (n : Int) := by omega
          have h5 : ¬ (n : Int) ≤ 1000 := by omega
          clear h1
          go_enter Tryz.func77, Tryz.ntmps77
          go_wp2_with (go_at_call 107; refine (cD _).mono ?_; rintro e w' ⟨rfl, rfl⟩)
          go_ret2
          exact ⟨_, _, rfl, Or.inr ⟨by first | rfl | exact decide_eq_false (by assumption) | (simp; omega), HE.out⟩, rfl⟩
        · have h4 : ¬ (1 : Int) ≤ (n : Int) := by omega
          clear h1
          go_enter Tryz.func77, Tryz.ntmps77
          go_wp2_with (go_at_call 107; refine (cD _).mono ?_; rintro e w' ⟨rfl, rfl⟩)
          go_ret2
          exact ⟨_, _, rfl, Or.inr ⟨by first | rfl | exact decide_eq_false (by assumption) | (simp; omega), HE.out⟩, rfl⟩
end Go.Proofs.YtleeklcpbflfhaaGreatDoor
