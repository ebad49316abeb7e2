/- The walk of LineAgain. -/
import Derived.Test.YtpcmhaflmpcicaaDoorLnAw
import Derived.Test.YtpcmhaflmpcicaaDoorLnPrint
import Derived.Test.YtpcmhaflmpcicaaDoorLnEq
namespace Go.Proofs.YtpcmhaflmpcicaaDoor
open Go.RowKit

namespace Ln
theorem rp_nil : rp [] = none := by rw [rp_ok (by simp) Fd.valid_nil, rl_noname (by rw [nm_nil])]
end Ln
theorem emp_mk : (ByteArray.mk ([] : List UInt8).toArray) = ⟨#[]⟩ := rfl
set_option maxHeartbeats 4000000 in
set_option maxRecDepth 100000 in
theorem again_any (s : ByteArray) (w : World) (ht : Tab w) (hs : s.size ≤ 140737488355328) :
    Calls Tryd.prog 5 #[.string s] w fun e w' => e = .returned (.bool true) ∧ Gr w w' := by
  have cA := fun w (t : Tab w) => awake10_any w t
  by_cases hlong : 3000 < s.size
  · have hli : (3000 : Int) < (s.size : Int) := by omega
    go_enter Tryd.func5, Tryd.ntmps5
    go_wp2_with fail
    refine (cA _ ht).mono ?_
    rintro e w1 ⟨rfl, hg1⟩
    go_wp2_with fail
    refine (cA _ (ht.keep hg1)).mono ?_
    rintro e w2 ⟨rfl, hg2⟩
    go_wp2
    go_ret
    exact ⟨rfl, hg1.trans hg2⟩
  · have hli : ¬ (3000 : Int) < (s.size : Int) := by omega
    go_enter Tryd.func5, Tryd.ntmps5
    go_wp2_with fail
    refine (cA _ ht).mono ?_
    rintro e w1 ⟨rfl, hg1⟩
    have ht1 := ht.keep hg1
    go_wp2_with fail
    refine (parse_any s w1 ht1 hs).mono ?_
    rintro e w2 (⟨l, A, n, c, hl, rfl, hg2, hP, hnc⟩ | ⟨hl, E, m, rfl, hE, hg2⟩)
    · obtain ⟨hfm, hwt⟩ := Ln.rp_good hl
      have hsl := Ln.rp_len hl
      have hg3 : Gr w2 (w2.alloc (.cells #[.string ⟨l.name.toArray⟩, .slice A n c, .string ⟨l.value.toArray⟩] 32)) := (Gr.refl w2).allocO _
      have hx3 := Bx3.new w2 (.string ⟨l.name.toArray⟩) (.slice A n c) (.string ⟨l.value.toArray⟩) 32
      have hg13 := (hg1.trans hg2).trans hg3
      have ht3 := ht.keep hg13
      have hP3 := hP.gr hg3
      have hwt2 : l.name.length + l.value.length + Ln.wtPs l.ps ≤ 2000 := Nat.le_trans hwt hsl
      have hpl := Ln.wtPs_len l.ps
      have hn60 : n ≤ 1000000 := by have := hP.1; omega
      have cP := print_any ⟨l.name.toArray⟩ ⟨l.value.toArray⟩ A n c l.ps _ ht3 hP3 hnc (by rw [size_mk, size_mk]; omega)
      have e1 : (⟨(ByteArray.mk l.name.toArray).data.toList, l.ps, (ByteArray.mk l.value.toArray).data.toList⟩ : Ln.Li) = l := rfl
      rw [e1] at cP
      have cF := fun w (t : Tab w) (p : Pars w w.heap.size A n l.ps) => formed_any ⟨l.name.toArray⟩ ⟨l.value.toArray⟩ A n c l.ps w t p hnc (by omega) (by rw [size_mk]; omega)
      rw [e1, hfm] at cF
      have hvl : ∀ p ∈ l.ps, p.2.length ≤ 1000000 := fun p hp => by
        have h1 := Ln.wtPs_mem hp
        have h2 := Ln.wtV_len p.2
        unfold Ln.wtP at h1; omega
      have cE := fun w (p : Pars w w.heap.size A n l.ps) A2 n2 c2 (q : Pars w w.heap.size A2 n2 l.ps) => equal_any ⟨l.name.toArray⟩ ⟨l.value.toArray⟩ ⟨l.name.toArray⟩ ⟨l.value.toArray⟩ A A2 n c n2 c2 l.ps l.ps w p q hn60 hvl true ⟨fun _ => ⟨rfl, rfl, rfl⟩, fun _ => rfl⟩
      have HLG := Lib.hid (fun h => Ln.pr_long hfm h)
      have HOK := Lib.hid (fun h => Ln.pr_ok hfm h)
      have HRP := Lib.hid (fun h => Ln.rp_pr l hfm h)
      have HLS := Lib.hid (Ln.pr_len l)
      clear hl hfm hwt hsl e1 hwt2 hpl
      go_wp2_with fail
      refine cP.mono ?_
      rintro e w4 ⟨rfl, hg4⟩
      have hx4 := hx3.gr hg4
      have hg14 := hg13.trans hg4
      have hP4 := hP3.gr hg4
      have ht4 := ht.keep hg14
      clear hx3 hg13 hP3 ht3 cP
      by_cases hlen : 2000 < (Ln.pr l).length
      · obtain ⟨e1, e2⟩ := HLG.out hlen
        rw [e1, e2, emp_mk]
        have cQ := (parse_any ⟨#[]⟩ w4 ht4 (by decide)).mono (R' := fun e w' => ∃ E m : Int, e = .returned (.tuple #[.agg #[.string ⟨#[]⟩, .slice none 0 0, .string ⟨#[]⟩], .int .i64 m, .int .i64 E]) ∧ Gr w4 w') (by
          rintro e w' (⟨l2, A2, n2, c2, hl2, _⟩ | ⟨_, E, m, he, _, hg⟩)
          · have h2 : Ln.rp [] = some l2 := hl2
            rw [Ln.rp_nil] at h2; cases h2
          · exact ⟨E, m, he, hg⟩)
        clear e1 e2 hlen HLG HOK HRP HLS cE
        go_wp2_with fail
        refine cQ.mono ?_
        rintro e w5 ⟨E, m, rfl, hg5⟩
        have hg6 : Gr w5 (w5.alloc (.cells #[.string ⟨#[]⟩, .slice none 0 0, .string ⟨#[]⟩] 32)) := (Gr.refl w5).allocO _
        have hg56 := hg5.trans hg6
        have hx6 := hx4.gr hg56
        have x0 := hx6.c0
        have x1 := hx6.c1
        have x2 := hx6.c2
        have cF2 := cF _ (ht4.keep hg56) (hP4.gr hg56)
        clear hx4 hx6 cF cQ
        generalize (ByteArray.mk l.name.toArray) = N at *
        generalize (ByteArray.mk l.value.toArray) = V at *
        go_wp2_with fail
        refine cF2.mono ?_
        rintro e w7 ⟨rfl, hg7⟩
        go_wp2
        go_ret
        exact ⟨rfl, (hg14.trans hg56).trans hg7⟩
      · obtain ⟨e1, e2⟩ := HOK.out (by omega)
        rw [e1, e2]
        have hrp := HRP.out (by omega)
        have cQ := (parse_any ⟨(Ln.pr l).toArray⟩ w4 ht4 (by rw [size_mk]; omega)).mono (R' := fun e w' => ∃ A2 n2 c2, e = .returned (.tuple #[.agg #[.string ⟨l.name.toArray⟩, .slice A2 n2 c2, .string ⟨l.value.toArray⟩], .int .i64 0, .int .i64 0]) ∧ Gr w4 w' ∧ Pars w' w'.heap.size A2 n2 l.ps) (by
          rintro e w' (⟨l2, A2, n2, c2, hl2, he, hg, hq, _⟩ | ⟨hl2, _⟩)
          · have h2 : Ln.rp (Ln.pr l) = some l2 := hl2
            rw [hrp] at h2
            injection h2 with h2
            subst h2
            exact ⟨A2, n2, c2, he, hg, hq⟩
          · have h2 : Ln.rp (Ln.pr l) = none := hl2
            rw [hrp] at h2; cases h2)
        clear e1 e2 hlen HLG HOK HRP HLS hrp
        generalize (ByteArray.mk (Ln.pr l).toArray) = T at *
        go_wp2_with fail
        refine cQ.mono ?_
        rintro e w5 ⟨A2, n2, c2, rfl, hg5, hQ5⟩
        have hg6 : Gr w5 (w5.alloc (.cells #[.string ⟨l.name.toArray⟩, .slice A2 n2 c2, .string ⟨l.value.toArray⟩] 32)) := (Gr.refl w5).allocO _
        have hg56 := hg5.trans hg6
        have hx6 := hx4.gr hg56
        have hz6 := Bx3.new w5 (.string ⟨l.name.toArray⟩) (.slice A2 n2 c2) (.string ⟨l.value.toArray⟩) 32
        have x0 := hx6.c0
        have x1 := hx6.c1
        have x2 := hx6.c2
        have cF2 := cF _ (ht4.keep hg56) (hP4.gr hg56)
        clear hx4 cF cQ
        generalize (ByteArray.mk l.name.toArray) = N at *
        generalize (ByteArray.mk l.value.toArray) = V at *
        go_wp2_with fail
        refine cF2.mono ?_
        rintro e w7 ⟨rfl, hg7⟩
        have hx7 := hx6.gr hg7
        have hz7 := hz6.gr hg7
        have y0 := hx7.c0
        have y1 := hx7.c1
        have y2 := hx7.c2
        have z0 := hz7.c0
        have z1 := hz7.c1
        have z2 := hz7.c2
        have cE2 := cE w7 ((hP4.gr hg56).gr hg7) A2 n2 c2 ((hQ5.gr hg6).gr hg7)
        clear hx6 hz6 hx7 hz7 cE x0 x1 x2
        go_wp2_with fail
        refine cE2.mono ?_
        rintro e w8 ⟨rfl, hg8⟩
        go_wp2
        go_ret
        exact ⟨rfl, ((hg14.trans hg56).trans hg7).trans hg8⟩
    · go_wp2
      go_ret
      exact ⟨rfl, (hg1.trans hg2).allocO _⟩
end Go.Proofs.YtpcmhaflmpcicaaDoor
