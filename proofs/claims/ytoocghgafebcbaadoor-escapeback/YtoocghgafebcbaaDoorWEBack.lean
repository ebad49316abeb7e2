/- EscapeBack: the walk. -/
import Derived.Test.YtoocghgafebcbaaDoorEsAw
import Derived.Test.YtoocghgafebcbaaDoorEsVa
namespace Go.Proofs.YtoocghgafebcbaaDoor
open Go.RowKit

set_option maxHeartbeats 2000000 in
set_option maxRecDepth 100000 in
theorem escback_any (s : ByteArray) (w : World) (ht : Tab w) (hs : s.size ≤ 140737488355328) :
    Calls Tryd.prog 5 #[.string s] w fun e w' => e = .returned (.bool true) ∧ Gr w w' := by
  by_cases h5 : 5000 < s.size
  · have h5d : decide ((5000 : Int) < (s.size : Int)) = true := by simp; omega
    have h5i : (5000 : Int) < (s.size : Int) := by omega
    clear h5
    go_enter Tryd.func5, Tryd.ntmps5
    go_wp2_with fail
    refine (awake9_any _ ht).mono ?_
    rintro e w1 ⟨rfl, hg1⟩
    go_wp2_with fail
    refine (awake9_any _ (ht.keep hg1)).mono ?_
    rintro e w2 ⟨rfl, hg2⟩
    go_wp2
    go_ret
    exact ⟨rfl, hg1.trans hg2⟩
  · have h5d : decide ((5000 : Int) < (s.size : Int)) = false := by simp; omega
    have h5i : (s.size : Int) ≤ 5000 := by omega
    have hb : s.size ≤ 400000 := by omega
    have cT := fun w ht => text_any s w ht hb
    have cP := fun w ht => param_any s w ht hb
    by_cases hE : Es.clE true s.data.toList = 0
    · rw [Es.txT_ok hE, hE] at cT
      rw [Es.pqT_ok hE, hE] at cP
      have hl := Lib.size_eq s
      have l1 := Es.tx_len s.data.toList
      have l2 := Es.pq_len s.data.toList
      have cL := fun w ht => plain_any ⟨(Es.tx s.data.toList).toArray⟩ w ht (by rw [size_mk]; omega)
      have cV := fun w ht => value_any ⟨(Es.pq s.data.toList).toArray⟩ w ht (by rw [size_mk]; omega)
      have e1 : (ByteArray.mk (Es.tx s.data.toList).toArray).data.toList = Es.tx s.data.toList := rfl
      have e2 : (ByteArray.mk (Es.pq s.data.toList).toArray).data.toList = Es.pq s.data.toList := rfl
      rw [e1, (Es.pl_tx _ hE).1, (Es.pl_tx _ hE).2, mk_data] at cL
      rw [e2, (Es.vl_pq _ hE).1, (Es.vl_pq _ hE).2, mk_data] at cV
      clear e1 e2 hl l1 l2 hE h5
      generalize (ByteArray.mk (Es.tx s.data.toList).toArray) = T at *
      generalize (ByteArray.mk (Es.pq s.data.toList).toArray) = P at *
      go_enter Tryd.func5, Tryd.ntmps5
      go_wp2_with fail
      refine (awake9_any _ ht).mono ?_
      rintro e w1 ⟨rfl, hg1⟩
      have ht1 := ht.keep hg1
      go_wp2_with fail
      refine (cT _ ht1).mono ?_
      rintro e w2 ⟨rfl, hg2⟩
      have ht2 := ht1.keep hg2
      go_wp2_with fail
      refine (cP _ ht2).mono ?_
      rintro e w3 ⟨rfl, hg3⟩
      have ht3 := ht2.keep hg3
      go_wp2_with fail
      refine (cL _ ht3).mono ?_
      rintro e w4 ⟨rfl, hg4⟩
      have ht4 := ht3.keep hg4
      go_wp2_with fail
      refine (cV _ ht4).mono ?_
      rintro e w5 ⟨rfl, hg5⟩
      go_wp2
      go_ret
      exact ⟨rfl, (((hg1.trans hg2).trans hg3).trans hg4).trans hg5⟩
    · rw [Es.txT_no hE] at cT
      rw [Es.pqT_no hE] at cP
      have hEn : ((Es.clE true s.data.toList : Int) != 0) = true := by simpa using hE
      generalize Es.clE true s.data.toList = E at *
      clear hE h5
      go_enter Tryd.func5, Tryd.ntmps5
      go_wp2_with fail
      refine (awake9_any _ ht).mono ?_
      rintro e w1 ⟨rfl, hg1⟩
      have ht1 := ht.keep hg1
      go_wp2_with fail
      refine (cT _ ht1).mono ?_
      rintro e w2 ⟨rfl, hg2⟩
      have ht2 := ht1.keep hg2
      go_wp2_with fail
      refine (cP _ ht2).mono ?_
      rintro e w3 ⟨rfl, hg3⟩
      go_wp2
      go_ret
      exact ⟨rfl, (hg1.trans hg2).trans hg3⟩
end Go.Proofs.YtoocghgafebcbaaDoor
