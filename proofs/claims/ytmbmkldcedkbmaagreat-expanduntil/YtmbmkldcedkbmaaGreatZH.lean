/- The texts RcRd, RcRefL, one behind the other. -/
import Derived.Test.YtmbmkldcedkbmaaGreatZRcForm
import Derived.Test.YtmbmkldcedkbmaaGreatZE
import Derived.Test.YtmbmkldcedkbmaaGreatZF
import Derived.Test.YtmbmkldcedkbmaaGreatZO
import Derived.Deep.WholeRow
import Derived.Laws.CopyRow
namespace Go.Proofs.YtmbmkldcedkbmaaGreat
open Go.RowKit

theorem Nums.sm {b : Nat} {w w' : World} {A : Option Addr} {n : Nat} {xs : List Int} (h : Nums w w.heap.size A n xs) (ho : 0 < n → ∀ ad, A = some ad → ad.block ≠ b) (hs : Sm (fun k => k ≠ b) w w') : Nums w' w'.heap.size A n xs :=
  ⟨h.1, fun hn => by
    obtain ⟨ad, e, hb, hc⟩ := h.2 hn
    refine ⟨ad, e, Nat.lt_of_lt_of_le hb hs.size, fun j u hu => hs.cell ?_ (hc j u hu)⟩
    show (ad.add j).block ≠ b
    rw [add_block]
    exact ho hn ad e⟩
theorem Days.sm {b : Nat} {w w' : World} {A : Option Addr} {n : Nat} {xs : List (Int × Int)} (h : Days w w.heap.size A n xs) (ho : 0 < n → ∀ ad, A = some ad → ad.block ≠ b) (hs : Sm (fun k => k ≠ b) w w') : Days w' w'.heap.size A n xs :=
  ⟨h.1, fun hn => by
    obtain ⟨ad, e, hb, hc⟩ := h.2 hn
    have hz : ∀ j, (ad.add j).block ≠ b := fun j => by rw [add_block]; exact ho hn ad e
    exact ⟨ad, e, Nat.lt_of_lt_of_le hb hs.size, fun j u hu => ⟨hs.cell (hz _) (hc j u hu).1, hs.cell (a := ⟨(ad.add (j * 2)).block, (ad.add (j * 2)).off + 1, none⟩) (hz _) (hc j u hu).2⟩⟩⟩
/- a rule that is being read: its box b, its lists elsewhere, from the block B on -/
structure RdM (w : World) (B b : Nat) (V : Rm.Rv) : Prop where
  box : RBx w b V
  free : ∀ o, w.frozen? ⟨b, o, none⟩ = false
  m : RuM w w.heap.size V
  off : ∀ i, i < 8 → 0 < (V.sl i).n → ∀ ad, (V.sl i).A = some ad → ad.block ≠ b ∧ B ≤ ad.block
  offd : 0 < V.day.n → ∀ ad, V.day.A = some ad → ad.block ≠ b ∧ B ≤ ad.block
theorem RdM.gr {w w' : World} {B b : Nat} {V : Rm.Rv} (h : RdM w B b V) (hg : Gr w w') : RdM w' B b V :=
  ⟨h.box.gr hg, fun o => by rw [hg.frozen (a := ⟨b, o, none⟩) (show b < _ from World.block_lt_of_cell? _ _ h.box.c0)]; exact h.free o, h.m.gr hg, h.off, h.offd⟩
theorem RuM.sm {b : Nat} {w w' : World} {V : Rm.Rv} (h : RuM w w.heap.size V) (ho : ∀ i, i < 8 → 0 < (V.sl i).n → ∀ ad, (V.sl i).A = some ad → ad.block ≠ b) (hd : 0 < V.day.n → ∀ ad, V.day.A = some ad → ad.block ≠ b) (hs : Sm (fun k => k ≠ b) w w') : RuM w' w'.heap.size V :=
  ⟨h.z, fun i hi => (h.l i hi).sm (ho i hi) hs, Days.sm h.d hd hs⟩
theorem RBx.set_freq {w : World} {b : Nat} {V : Rm.Rv} (h : RBx w b V) (x : Int) : RBx (w.setCell ⟨b, 0, none⟩ (.int .i64 x)) b { V with r := { V.r with freq := x } } := by
  have k : ∀ {o v}, o ≠ 0 → w.cell? ⟨b, o, none⟩ = some v → (w.setCell ⟨b, 0, none⟩ (.int .i64 x)).cell? ⟨b, o, none⟩ = some v := fun ho hc => by
    rw [World.cell?_setCell_other (h := fun e => ho (congrArg Addr.off e).symm)]
    exact hc
  exact ⟨World.cell?_setCell_same _ _ _ h.c0, k (by decide) h.c1, k (by decide) h.c2, k (by decide) h.c3, k (by decide) h.c4, k (by decide) h.c5, k (by decide) h.c6, k (by decide) h.c7, k (by decide) h.c8, k (by decide) h.c9, k (by decide) h.c10, k (by decide) h.c11, k (by decide) h.c12, k (by decide) h.c13, k (by decide) h.c14, k (by decide) h.c15, k (by decide) h.c16⟩
theorem RdM.set_freq {w : World} {B b : Nat} {V : Rm.Rv} (h : RdM w B b V) (x : Int) : RdM (w.setCell ⟨b, 0, none⟩ (.int .i64 x)) B b { V with r := { V.r with freq := x } } := by
  have hs : Sm (fun k => k ≠ b) w (w.setCell ⟨b, 0, none⟩ (.int .i64 x)) := Sm.setCell _ _ _ _ (fun e => e rfl)
  have hm := h.m.sm (fun i hi hn ad e => (h.off i hi hn ad e).1) (fun hn ad e => (h.offd hn ad e).1) hs
  refine ⟨h.box.set_freq x, fun o => by rw [World.frozen?_setCell]; exact h.free o, ⟨hm.z, fun i hi => ?_, hm.d⟩, fun i hi => h.off i hi, h.offd⟩
  have := hm.l i hi
  rcases (show i = 0 ∨ i = 1 ∨ i = 2 ∨ i = 3 ∨ i = 4 ∨ i = 5 ∨ i = 6 ∨ i = 7 by omega) with rfl | rfl | rfl | rfl | rfl | rfl | rfl | rfl <;> exact this
theorem RBx.set_ivl {w : World} {b : Nat} {V : Rm.Rv} (h : RBx w b V) (x : Int) : RBx (w.setCell ⟨b, 1, none⟩ (.int .i64 x)) b { V with r := { V.r with ivl := x } } := by
  have k : ∀ {o v}, o ≠ 1 → w.cell? ⟨b, o, none⟩ = some v → (w.setCell ⟨b, 1, none⟩ (.int .i64 x)).cell? ⟨b, o, none⟩ = some v := fun ho hc => by
    rw [World.cell?_setCell_other (h := fun e => ho (congrArg Addr.off e).symm)]
    exact hc
  exact ⟨k (by decide) h.c0, World.cell?_setCell_same _ _ _ h.c1, k (by decide) h.c2, k (by decide) h.c3, k (by decide) h.c4, k (by decide) h.c5, k (by decide) h.c6, k (by decide) h.c7, k (by decide) h.c8, k (by decide) h.c9, k (by decide) h.c10, k (by decide) h.c11, k (by decide) h.c12, k (by decide) h.c13, k (by decide) h.c14, k (by decide) h.c15, k (by decide) h.c16⟩
theorem RdM.set_ivl {w : World} {B b : Nat} {V : Rm.Rv} (h : RdM w B b V) (x : Int) : RdM (w.setCell ⟨b, 1, none⟩ (.int .i64 x)) B b { V with r := { V.r with ivl := x } } := by
  have hs : Sm (fun k => k ≠ b) w (w.setCell ⟨b, 1, none⟩ (.int .i64 x)) := Sm.setCell _ _ _ _ (fun e => e rfl)
  have hm := h.m.sm (fun i hi hn ad e => (h.off i hi hn ad e).1) (fun hn ad e => (h.offd hn ad e).1) hs
  refine ⟨h.box.set_ivl x, fun o => by rw [World.frozen?_setCell]; exact h.free o, ⟨hm.z, fun i hi => ?_, hm.d⟩, fun i hi => h.off i hi, h.offd⟩
  have := hm.l i hi
  rcases (show i = 0 ∨ i = 1 ∨ i = 2 ∨ i = 3 ∨ i = 4 ∨ i = 5 ∨ i = 6 ∨ i = 7 by omega) with rfl | rfl | rfl | rfl | rfl | rfl | rfl | rfl <;> exact this
theorem RBx.set_cnt {w : World} {b : Nat} {V : Rm.Rv} (h : RBx w b V) (x : Int) : RBx (w.setCell ⟨b, 2, none⟩ (.int .i64 x)) b { V with r := { V.r with cnt := x } } := by
  have k : ∀ {o v}, o ≠ 2 → w.cell? ⟨b, o, none⟩ = some v → (w.setCell ⟨b, 2, none⟩ (.int .i64 x)).cell? ⟨b, o, none⟩ = some v := fun ho hc => by
    rw [World.cell?_setCell_other (h := fun e => ho (congrArg Addr.off e).symm)]
    exact hc
  exact ⟨k (by decide) h.c0, k (by decide) h.c1, World.cell?_setCell_same _ _ _ h.c2, k (by decide) h.c3, k (by decide) h.c4, k (by decide) h.c5, k (by decide) h.c6, k (by decide) h.c7, k (by decide) h.c8, k (by decide) h.c9, k (by decide) h.c10, k (by decide) h.c11, k (by decide) h.c12, k (by decide) h.c13, k (by decide) h.c14, k (by decide) h.c15, k (by decide) h.c16⟩
theorem RdM.set_cnt {w : World} {B b : Nat} {V : Rm.Rv} (h : RdM w B b V) (x : Int) : RdM (w.setCell ⟨b, 2, none⟩ (.int .i64 x)) B b { V with r := { V.r with cnt := x } } := by
  have hs : Sm (fun k => k ≠ b) w (w.setCell ⟨b, 2, none⟩ (.int .i64 x)) := Sm.setCell _ _ _ _ (fun e => e rfl)
  have hm := h.m.sm (fun i hi hn ad e => (h.off i hi hn ad e).1) (fun hn ad e => (h.offd hn ad e).1) hs
  refine ⟨h.box.set_cnt x, fun o => by rw [World.frozen?_setCell]; exact h.free o, ⟨hm.z, fun i hi => ?_, hm.d⟩, fun i hi => h.off i hi, h.offd⟩
  have := hm.l i hi
  rcases (show i = 0 ∨ i = 1 ∨ i = 2 ∨ i = 3 ∨ i = 4 ∨ i = 5 ∨ i = 6 ∨ i = 7 by omega) with rfl | rfl | rfl | rfl | rfl | rfl | rfl | rfl <;> exact this
theorem RBx.set_st {w : World} {b : Nat} {V : Rm.Rv} (h : RBx w b V) (x : Int) : RBx (w.setCell ⟨b, 7, none⟩ (.int .i64 x)) b { V with r := { V.r with st := x } } := by
  have k : ∀ {o v}, o ≠ 7 → w.cell? ⟨b, o, none⟩ = some v → (w.setCell ⟨b, 7, none⟩ (.int .i64 x)).cell? ⟨b, o, none⟩ = some v := fun ho hc => by
    rw [World.cell?_setCell_other (h := fun e => ho (congrArg Addr.off e).symm)]
    exact hc
  exact ⟨k (by decide) h.c0, k (by decide) h.c1, k (by decide) h.c2, k (by decide) h.c3, k (by decide) h.c4, k (by decide) h.c5, k (by decide) h.c6, World.cell?_setCell_same _ _ _ h.c7, k (by decide) h.c8, k (by decide) h.c9, k (by decide) h.c10, k (by decide) h.c11, k (by decide) h.c12, k (by decide) h.c13, k (by decide) h.c14, k (by decide) h.c15, k (by decide) h.c16⟩
theorem RdM.set_st {w : World} {B b : Nat} {V : Rm.Rv} (h : RdM w B b V) (x : Int) : RdM (w.setCell ⟨b, 7, none⟩ (.int .i64 x)) B b { V with r := { V.r with st := x } } := by
  have hs : Sm (fun k => k ≠ b) w (w.setCell ⟨b, 7, none⟩ (.int .i64 x)) := Sm.setCell _ _ _ _ (fun e => e rfl)
  have hm := h.m.sm (fun i hi hn ad e => (h.off i hi hn ad e).1) (fun hn ad e => (h.offd hn ad e).1) hs
  refine ⟨h.box.set_st x, fun o => by rw [World.frozen?_setCell]; exact h.free o, ⟨hm.z, fun i hi => ?_, hm.d⟩, fun i hi => h.off i hi, h.offd⟩
  have := hm.l i hi
  rcases (show i = 0 ∨ i = 1 ∨ i = 2 ∨ i = 3 ∨ i = 4 ∨ i = 5 ∨ i = 6 ∨ i = 7 by omega) with rfl | rfl | rfl | rfl | rfl | rfl | rfl | rfl <;> exact this
theorem RBx.set_has {w : World} {b : Nat} {V : Rm.Rv} (h : RBx w b V) (x : Bool) : RBx (w.setCell ⟨b, 6, none⟩ (.bool x)) b { V with r := { V.r with has := x } } := by
  have k : ∀ {o v}, o ≠ 6 → w.cell? ⟨b, o, none⟩ = some v → (w.setCell ⟨b, 6, none⟩ (.bool x)).cell? ⟨b, o, none⟩ = some v := fun ho hc => by
    rw [World.cell?_setCell_other (h := fun e => ho (congrArg Addr.off e).symm)]
    exact hc
  exact ⟨k (by decide) h.c0, k (by decide) h.c1, k (by decide) h.c2, k (by decide) h.c3, k (by decide) h.c4, k (by decide) h.c5, World.cell?_setCell_same _ _ _ h.c6, k (by decide) h.c7, k (by decide) h.c8, k (by decide) h.c9, k (by decide) h.c10, k (by decide) h.c11, k (by decide) h.c12, k (by decide) h.c13, k (by decide) h.c14, k (by decide) h.c15, k (by decide) h.c16⟩
theorem RdM.set_has {w : World} {B b : Nat} {V : Rm.Rv} (h : RdM w B b V) (x : Bool) : RdM (w.setCell ⟨b, 6, none⟩ (.bool x)) B b { V with r := { V.r with has := x } } := by
  have hs : Sm (fun k => k ≠ b) w (w.setCell ⟨b, 6, none⟩ (.bool x)) := Sm.setCell _ _ _ _ (fun e => e rfl)
  have hm := h.m.sm (fun i hi hn ad e => (h.off i hi hn ad e).1) (fun hn ad e => (h.offd hn ad e).1) hs
  refine ⟨h.box.set_has x, fun o => by rw [World.frozen?_setCell]; exact h.free o, ⟨hm.z, fun i hi => ?_, hm.d⟩, fun i hi => h.off i hi, h.offd⟩
  have := hm.l i hi
  rcases (show i = 0 ∨ i = 1 ∨ i = 2 ∨ i = 3 ∨ i = 4 ∨ i = 5 ∨ i = 6 ∨ i = 7 by omega) with rfl | rfl | rfl | rfl | rfl | rfl | rfl | rfl <;> exact this
/- the part p is read as runP says -/
end Go.Proofs.YtmbmkldcedkbmaaGreat
namespace Go.Proofs.YtmbmkldcedkbmaaGreat
open Go.RowKit

namespace Rm
abbrev arr8 (V : Rv) : Array Value := #[V.sec.v, V.min.v, V.hour.v, V.mday.v, V.yday.v, V.week.v, V.month.v, V.pos.v]
end Rm
theorem info_arr8 : (Tryz.prog.info? 47).map (·.size) = some 8 := by kernel_rfl
theorem arr8_one (V : Rm.Rv) : ((Rm.arr8 V).all (·.oneCell')) = true := by simp [Rm.arr8, Rm.Sl.v, Value.oneCell']
theorem sm_setRow (w : World) (b : Nat) (cs : Array Value) : Sm (fun k => k ≠ b) w (w.setRow b cs) := ⟨rfl, rfl, rfl, by simp, fun k _ hk => setRow_other w b k cs hk⟩
set_option maxRecDepth 100000 in
set_option maxHeartbeats 4000000 in
theorem reflists_any (V : Rm.Rv) (w : World) :
    Calls Tryz.prog 18 #[.agg V.val] w fun e w' => e = .returned (.agg (Rm.arr8 V)) ∧ Gr w w' := by
  have hg0 : Gr w (w.alloc (.cells V.val 27)) := (Gr.refl w).allocO _
  have hsz : (w.alloc (.cells V.val 27)).heap.size = w.heap.size + 1 := by simp
  have hz : ∀ o, ((w.alloc (.cells V.val 27)).alloc o).heap[w.heap.size + 1]? = some o := fun o => by rw [← hsz]; exact heap_alloc_new _ _
  have HZ := Lib.hid hz
  clear hz
  have hg1 : ∀ o, Gr (w.alloc (.cells V.val 27)) ((w.alloc (.cells V.val 27)).alloc o) := fun o => (Gr.refl _).allocO o
  obtain ⟨e0, e1, e2, e3, e4, e5, e6, e7, e8, e9, e10, e11, e12, e13, e14, e15, e16⟩ := RBx.now w V 27
  clear e0 e1 e2 e3 e4 e5 e6 e7 e11
  go_enter Tryz.func18, Tryz.ntmps18
  go_upto_region 1 with fail
  have HG1 := Lib.hid hg1
  have e8 := gr_cell (hg1 (.cells #[.slice none 0 0, .slice none 0 0, .slice none 0 0, .slice none 0 0, .slice none 0 0, .slice none 0 0, .slice none 0 0, .slice none 0 0] 47)) e8
  have e9 := gr_cell (hg1 (.cells #[.slice none 0 0, .slice none 0 0, .slice none 0 0, .slice none 0 0, .slice none 0 0, .slice none 0 0, .slice none 0 0, .slice none 0 0] 47)) e9
  have e10 := gr_cell (hg1 (.cells #[.slice none 0 0, .slice none 0 0, .slice none 0 0, .slice none 0 0, .slice none 0 0, .slice none 0 0, .slice none 0 0, .slice none 0 0] 47)) e10
  have e12 := gr_cell (hg1 (.cells #[.slice none 0 0, .slice none 0 0, .slice none 0 0, .slice none 0 0, .slice none 0 0, .slice none 0 0, .slice none 0 0, .slice none 0 0] 47)) e12
  have e13 := gr_cell (hg1 (.cells #[.slice none 0 0, .slice none 0 0, .slice none 0 0, .slice none 0 0, .slice none 0 0, .slice none 0 0, .slice none 0 0, .slice none 0 0] 47)) e13
  have e14 := gr_cell (hg1 (.cells #[.slice none 0 0, .slice none 0 0, .slice none 0 0, .slice none 0 0, .slice none 0 0, .slice none 0 0, .slice none 0 0, .slice none 0 0] 47)) e14
  have e15 := gr_cell (hg1 (.cells #[.slice none 0 0, .slice none 0 0, .slice none 0 0, .slice none 0 0, .slice none 0 0, .slice none 0 0, .slice none 0 0, .slice none 0 0] 47)) e15
  have e16 := gr_cell (hg1 (.cells #[.slice none 0 0, .slice none 0 0, .slice none 0 0, .slice none 0 0, .slice none 0 0, .slice none 0 0, .slice none 0 0, .slice none 0 0] 47)) e16
  clear hg1
  go_wp2_with (refine wpList_store_row rfl 47 (.tmp 2) (.tmp 19) rfl (w.heap.size + 1) (Rm.arr8 V) rfl rfl 47 _ (HZ.out _) info_arr8 rfl (arr8_one V) ?_)
  refine bodyPost_ret (results_cell_row rfl _ _ (w.heap.size + 1) 47 (Rm.arr8 V) (0, 0) _ rfl (setRow_heap _ _ _ _ _ _ (HZ.out _)) Tryz.underlying47 rfl info_arr8) rfl ?_
  exact ⟨rfl, ⟨(hg0.trans (HG1.out _)).below.trans ((sm_setRow _ (w.heap.size + 1) _).below (fun _ h => Nat.ne_of_lt (Nat.lt_succ_of_lt h)) (hg0.trans (HG1.out _)).lt)⟩⟩
end Go.Proofs.YtmbmkldcedkbmaaGreat
