/- FoldWrites: the walk. -/
import Derived.Test.YtbdfkpgcjdhcdaaDoorFdLaw
namespace Go.Proofs.YtbdfkpgcjdhcdaaDoor
open Go.RowKit

set_option maxHeartbeats 2000000 in
set_option maxRecDepth 100000 in
theorem foldwrites_any (A : Option Addr) (n c : Nat) (ls : List (List UInt8)) (w : World) (ht : Tab w) (hS : Strs w w.heap.size A n ls) (hn : n ≤ 140737488355328) (hlen : ∀ l ∈ ls, l.length ≤ 140737488355328) :
    Calls Tryd.prog 3 #[.slice A n c] w fun e w' => e = .returned (.bool true) ∧ Gr w w' := by
  go_enter Tryd.func3, Tryd.ntmps3
  go_wp2_with fail
  refine (awake_any _ ht).mono ?_
  rintro e w1 ⟨rfl, hg1⟩
  go_wp2_with fail
  refine (few_any A n c ls _ ((hS.keep hg1.below).more hg1.lt) hn hlen).mono ?_
  rintro e w2 ⟨b, rfl, rfl, hb⟩
  cases b
  · go_wp2_with fail
    refine (awake_any _ (ht.keep hg1)).mono ?_
    rintro e w3 ⟨rfl, hg3⟩
    go_wp2
    go_ret
    exact ⟨rfl, hg1.trans hg3⟩
  · obtain ⟨hn3, hl3⟩ := hb rfl
    have cF := fold_any A n c ls w1 (ht.keep hg1) ((hS.keep hg1.below).more hg1.lt) (by omega) (fun l hl => by have := hl3 l hl; omega)
    have cR := fun w2 (hg2 : Gr w1 w2) => reffold_any A n c ls w2 ((hS.keep (hg1.trans hg2).below).more (hg1.trans hg2).lt) (by omega) (fun l hl => by have := hl3 l hl; omega)
    generalize Fd.foldT ls = T at *
    generalize Fd.foldE ls = E at *
    clear hb
    go_wp2_with fail
    refine cF.mono ?_
    rintro e w3 ⟨rfl, hg3⟩
    go_wp2_with fail
    refine (cR w3 hg3).mono ?_
    rintro e w4 ⟨rfl, hg4⟩
    go_wp2
    go_ret
    exact ⟨rfl, (hg1.trans hg3).trans hg4⟩
end Go.Proofs.YtbdfkpgcjdhcdaaDoor
