/- The walk of ValueOffsets. -/
import Derived.Test.YtafpdiikhhikeaaDoorVaOff
import Derived.Test.YtafpdiikhhikeaaDoorRefOff
import Derived.Test.YtafpdiikhhikeaaDoorRefPo
namespace Go.Proofs.YtafpdiikhhikeaaDoor
open Go.RowKit

theorem po_nil : Va.po [] = none := rfl
theorem opV_pair (o : Option Int) : ∃ a b : Int, Va.opV o = .tuple #[.int .i64 a, .int .i64 b] := by
  rcases o with _ | n
  · exact ⟨0, 7, rfl⟩
  · exact ⟨n, 0, rfl⟩
theorem off_len (n : Int) : (Va.off n).length ≤ 10 := by
  unfold Va.off Va.ofp
  split <;> split <;> simp [Va.two_len]
/- value.ParseOffset of s and of t -/
def psV (s : ByteArray) : Value := Va.opV (Va.po s.data.toList)
theorem ps_any (s : ByteArray) (w : World) (hl : s.size ≤ 1000000) : Calls Tryd.prog 17 #[.string s] w fun e w' => e = .returned (psV s) ∧ w = w' := poffset_any s w hl
set_option maxRecDepth 8000 in
set_option maxHeartbeats 2000000 in
theorem voffsets_any (n : Int) (s : ByteArray) (w : World) (ht : Tab w) :
    Calls Tryd.prog 6 #[.int .i64 n, .string s] w fun e w' => e = .returned (.bool true) ∧ Gr w w' := by
  have hT := TG.start ht
  clear ht
  have cA := fun (w' : World) (h : TG w w') => awake12_any w' h.1
  by_cases hl : s.size ≤ 200
  · have cQ := fun w => rpoffset_any s w (by omega)
    obtain ⟨a, b, e⟩ := opV_pair (Va.po s.data.toList)
    have eS : psV s = .tuple #[.int .i64 a, .int .i64 b] := e
    rw [e] at cQ
    have ES := Lib.hid eS
    have zs : s.size ≤ 1000000 := by omega
    clear e eS
    rcases h : Va.offB n
    · have cD := fun (w' : World) => offset_no n w' h
      have cR := fun (w' : World) => roffset_no n w' h
      have eT : psV ⟨#[]⟩ = .tuple #[.int .i64 0, .int .i64 7] := rfl
      have ET := Lib.hid eT
      have zt : (ByteArray.mk #[]).size ≤ 1000000 := by show 0 ≤ _; omega
      clear eT h
      go_enter Tryd.func6, Tryd.ntmps6
      go_wp2_with (first | (go_at_call 8; refine (cA _ hT).mono ?_; rintro e w1 ⟨rfl, hb⟩; replace hT := hT.go hb; clear hb) | (go_at_call 15; refine (cD _).mono ?_; rintro e w1 ⟨rfl, hb⟩; replace hT := hT.go hb; clear hb) | (go_at_call 16; refine (cR _).mono ?_; rintro e w1 ⟨rfl, hb⟩; replace hT := hT.go hb; clear hb) | (go_at_call 18; refine (cQ _).mono ?_; rintro e w1 ⟨rfl, hb⟩; replace hT := hT.go hb; clear hb) | (go_at_call 17; refine (ps_any _ _ (by first | exact zs | exact zt)).mono ?_; rintro e w' ⟨rfl, rfl⟩; (first | rw [ES.out] | rw [ET.out])))
      go_ret
      exact ⟨rfl, hT.2⟩
    · have cD := fun (w' : World) => offset_yes n w' h
      have cR := fun (w' : World) => roffset_yes n w' h
      have eT : psV ⟨(Va.off n).toArray⟩ = .tuple #[.int .i64 n, .int .i64 0] := by
        unfold psV
        show Va.opV (Va.po (Va.off n)) = _
        rw [Va.po_off h]; rfl
      have hol := off_len n
      have zt : (ByteArray.mk (Va.off n).toArray).size ≤ 1000000 := by rw [Lib.size_eq]; show (Va.off n).length ≤ _; omega
      generalize Va.off n = t at *
      have ET := Lib.hid eT
      clear eT h
      go_enter Tryd.func6, Tryd.ntmps6
      go_wp2_with (first | (go_at_call 8; refine (cA _ hT).mono ?_; rintro e w1 ⟨rfl, hb⟩; replace hT := hT.go hb; clear hb) | (go_at_call 15; refine (cD _).mono ?_; rintro e w1 ⟨rfl, hb⟩; replace hT := hT.go hb; clear hb) | (go_at_call 16; refine (cR _).mono ?_; rintro e w1 ⟨rfl, hb⟩; replace hT := hT.go hb; clear hb) | (go_at_call 18; refine (cQ _).mono ?_; rintro e w1 ⟨rfl, hb⟩; replace hT := hT.go hb; clear hb) | (go_at_call 17; refine (ps_any _ _ (by first | exact zs | exact zt)).mono ?_; rintro e w' ⟨rfl, rfl⟩; (first | rw [ES.out] | rw [ET.out])))
      go_ret
      exact ⟨rfl, hT.2⟩
  · go_enter Tryd.func6, Tryd.ntmps6
    go_wp2_with (first | (go_at_call 8; refine (cA _ hT).mono ?_; rintro e w1 ⟨rfl, hb⟩; replace hT := hT.go hb; clear hb))
    go_ret
    exact ⟨rfl, hT.2⟩
end Go.Proofs.YtafpdiikhhikeaaDoor
