/- A rule that is loaded from its box, by one law (not cell by cell). -/
import Derived.Test.YtmbmkldcedkbmaaGreatZE
import Derived.BigQuiet
namespace Go.Proofs.YtmbmkldcedkbmaaGreat
open Go.RowKit

set_option maxRecDepth 100000 in
theorem run_rule {w : World} {b : Nat} {V : Rm.Rv} (h : RBx w b V) : (Instr.loadAt 27 (.pointer (some ⟨b, 0, none⟩))).run Tryz.prog w = .ok (.agg V.val) w := by
  obtain ⟨e0, e1, e2, e3, e4, e5, e6, e7, e8, e9, e10, e11, e12, e13, e14, e15, e16⟩ := h
  simp [go_sem, e0, e1, e2, e3, e4, e5, e6, e7, e8, e9, e10, e11, e12, e13, e14, e15, e16]
theorem exec_rule {w : World} {b : Nat} {V : Rm.Rv} {a : Act} {o : Oper} (x : Operand) (h : o.op = .load 27 x) (hx : a.eval x = .pointer (some ⟨b, 0, none⟩)) (hb : RBx w b V) : (execOp a.eval o).run Tryz.prog w = .ok (.value (.agg V.val)) w := by
  unfold execOp
  simp [h, hx, run_rule hb]
theorem wp_load_rule {w : World} {b : Nat} {V : Rm.Rv} {a : Act} {o : Oper} {K : Act → World → Prop} {Q : Exit → Act → World → Prop} (x : Operand) (h : o.op = .load 27 x) (hx : a.eval x = .pointer (some ⟨b, 0, none⟩)) (hb : RBx w b V) (hk : K (a.put o.dst (.agg V.val)) w) : o.wp Tryz.prog a w K Q := by
  unfold Oper.wp
  rw [exec_rule x h hx hb]
  exact hk
theorem wpList_load_rule {ops : Array Oper} {rest : List Oper} {w : World} {b : Nat} {V : Rm.Rv} {a : Act} {o : Oper} {Q : Exit → Act → World → Prop} (hgd : o.guard = none) (x : Operand) (h : o.op = .load 27 x) (hx : a.eval x = .pointer (some ⟨b, 0, none⟩)) (hb : RBx w b V)
    (hk : wpList Tryz.prog ops Q rest (a.put o.dst (.agg V.val)) w) : wpList Tryz.prog ops Q (o :: rest) a w :=
  wpList_plain hgd fun _ hK => wp_load_rule x h hx hb (hK _ _ hk)
theorem wpList_load_ruleg {ops : Array Oper} {rest : List Oper} {w : World} {b : Nat} {V : Rm.Rv} {a : Act} {o : Oper} {Q : Exit → Act → World → Prop} (hw : Region.wanted o (yielded ops a.tmps) = true) (x : Operand) (h : o.op = .load 27 x) (hx : a.eval x = .pointer (some ⟨b, 0, none⟩)) (hb : RBx w b V)
    (hk : wpList Tryz.prog ops Q rest (a.put o.dst (.agg V.val)) w) : wpList Tryz.prog ops Q (o :: rest) a w :=
  BigFrame.wpList_want hw fun _ hK => wp_load_rule x h hx hb (hK _ _ hk)
theorem quiet_rule {b : Nat} {V : Rm.Rv} {a : Act} {o : Oper} {C : World → Prop} {K : Act → Prop} (x : Operand) (h : o.op = .load 27 x) (hx : a.eval x = .pointer (some ⟨b, 0, none⟩)) (hb : ∀ w, C w → RBx w b V) (hk : K (a.put o.dst (.agg V.val))) : o.quiet Tryz.prog a C K :=
  ⟨_, fun w hw => by unfold Oper.quietAt; rw [exec_rule x h hx (hb w hw)]; exact ⟨rfl, rfl⟩, hk⟩
theorem after_rule {W : World} {b : Nat} {V : Rm.Rv} (h : RBx W b V) : ∀ w, (∃ u : After W, w = u.wd) → RBx w b V := by
  rintro _ ⟨u, rfl⟩
  exact h.gr u.gr
end Go.Proofs.YtmbmkldcedkbmaaGreat
