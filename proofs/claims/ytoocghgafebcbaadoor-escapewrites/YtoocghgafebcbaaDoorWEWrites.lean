/- EscapeWrites: the walk. -/
import Derived.Test.YtoocghgafebcbaaDoorEsAw
import Derived.Test.YtoocghgafebcbaaDoorRefTx
namespace Go.Proofs.YtoocghgafebcbaaDoor
open Go.RowKit

set_option maxHeartbeats 2000000 in
set_option maxRecDepth 100000 in
theorem escwrites_any (s : ByteArray) (w : World) (ht : Tab w) (hs : s.size ≤ 140737488355328) :
    Calls Tryd.prog 3 #[.string s] w fun e w' => e = .returned (.bool true) ∧ Gr w w' := by
  by_cases h5 : 5000 < s.size
  · have h5d : decide ((5000 : Int) < (s.size : Int)) = true := by simp; omega
    have h5i : (5000 : Int) < (s.size : Int) := by omega
    clear h5
    go_enter Tryd.func3, Tryd.ntmps3
    go_wp2_with fail
    refine (awake9_any _ ht).mono ?_
    rintro e w1 ⟨rfl, hg1⟩
    go_wp2_with fail
    refine (awake9_any _ (ht.keep hg1)).mono ?_
    rintro e w2 ⟨rfl, hg2⟩
    go_wp2
    go_ret
    exact ⟨rfl, hg1.trans hg2⟩
  · have h5d : decide ((5000 : Int) < (s.size : Int)) = false := by simp; omega
    have h5i : (s.size : Int) ≤ 5000 := by omega
    have hb : s.size ≤ 400000 := by omega
    have cT := fun w ht => text_any s w ht hb
    have cR := fun w => reftext_any s w hb
    have cP := fun w ht => param_any s w ht hb
    have cQ := fun w => refparam_any s w hb
    generalize (ByteArray.mk (Es.txT s.data.toList).toArray) = T at *
    generalize (ByteArray.mk (Es.pqT s.data.toList).toArray) = P at *
    generalize Es.clE true s.data.toList = E at *
    clear h5
    go_enter Tryd.func3, Tryd.ntmps3
    go_wp2_with fail
    refine (awake9_any _ ht).mono ?_
    rintro e w1 ⟨rfl, hg1⟩
    have ht1 := ht.keep hg1
    go_wp2_with fail
    refine (cT _ ht1).mono ?_
    rintro e w2 ⟨rfl, hg2⟩
    go_wp2_with fail
    refine (cR _).mono ?_
    rintro e w3 ⟨rfl, hg3⟩
    have ht3 := (ht1.keep hg2).keep hg3
    go_wp2_with fail
    refine (cP _ ht3).mono ?_
    rintro e w4 ⟨rfl, hg4⟩
    go_wp2_with fail
    refine (cQ _).mono ?_
    rintro e w5 ⟨rfl, hg5⟩
    go_wp2
    go_ret
    exact ⟨rfl, (((hg1.trans hg2).trans hg3).trans hg4).trans hg5⟩
end Go.Proofs.YtoocghgafebcbaaDoor
