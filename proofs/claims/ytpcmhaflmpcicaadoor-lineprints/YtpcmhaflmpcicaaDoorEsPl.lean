/- What escape.Plain returns. -/
import Derived.Test.YtpcmhaflmpcicaaDoorEsTx
namespace Go.Proofs.YtpcmhaflmpcicaaDoor
open Go.RowKit

namespace Es
theorem pl_cl {l : List UInt8} (h : clE false l ≠ 0) : plE l = clE false l ∧ plT l = [] := by
  by_cases hv : Lib.validD l = false
  · rw [clE_utf hv]; exact pl_utf hv
  · have hv' : Lib.validD l = true := by simpa using hv
    by_cases hb : l.any (bad false) = false
    · exact absurd (clE_ok hv' hb) h
    · have hb' : l.any (bad false) = true := by simpa using hb
      rw [clE_val hv' hb']; exact pl_none hv' (plR_bad hb')
theorem pl_zero {l : List UInt8} (h : clE false l = 0) : (sing (rd [] l) = none → plE l = 7 ∧ plT l = []) ∧ (∀ t, sing (rd [] l) = some t → plE l = 0 ∧ plT l = t) := by
  obtain ⟨h1, h2⟩ := clE_zero h
  exact ⟨fun e => pl_none h1 (by rw [plR_ok h2]; exact e), fun t e => pl_some h1 (by rw [plR_ok h2]; exact e)⟩
end Es
theorem tail_drop (s : ByteArray) (i : Nat) : (s.data.toList.drop (i + 1)).tail = s.data.toList.drop (i + 2) := by rw [List.tail_drop]
theorem ext_data (s : ByteArray) (i : Nat) : (s.extract i s.size).data.toList = s.data.toList.drop i := by rw [extract_from]
end Go.Proofs.YtpcmhaflmpcicaaDoor
