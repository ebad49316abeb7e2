/- The texts RcOrd, RcSame, one behind the other. -/
import Derived.Test.YtleeklcpbflfhaaGreatDoorZO
import Derived.Test.YtleeklcpbflfhaaGreatDoorZRcEqual
import Derived.Test.YtleeklcpbflfhaaGreatDoorZRcFew
namespace Go.Proofs.YtleeklcpbflfhaaGreatDoor
open Go.RowKit

def nzB : List Bool → Nat
  | [] => 0
  | b :: l => (if b = true then 0 else 1) + nzB l
theorem nzB_set : ∀ (l : List Bool) (i : Nat), l[i]? = some false → nzB (l.set i true) + 1 = nzB l
  | [], i, h => by simp at h
  | b :: l, 0, h => by
    have hb : b = false := by simpa using h
    subst hb
    rw [List.set_cons_zero, nzB, nzB]
    simp; omega
  | b :: l, i + 1, h => by
    have ih := nzB_set l i (by simpa using h)
    rw [List.set_cons_succ, nzB, nzB]
    omega
theorem getD_false {l : List Bool} {i : Nat} (h : l.toArray.getD i true = false) : l[i]? = some false := by
  rcases Nat.lt_or_ge i l.length with h1 | h1
  · simp [h1] at h ⊢
    exact h
  · simp [h1] at h
theorem nzB_rep : ∀ n : Nat, nzB (List.replicate n false) = n
  | 0 => rfl
  | n + 1 => by
    rw [List.replicate_succ, nzB, nzB_rep n]
    simp; omega
/- all lists of n marks -/
def marks : Nat → List (List Bool)
  | 0 => [[]]
  | n + 1 => (marks n).flatMap fun l => [false :: l, true :: l]
theorem mem_marks : ∀ l : List Bool, l ∈ marks l.length
  | [] => by simp [marks]
  | b :: l => by
    have ih := mem_marks l
    rw [List.length_cons, marks, List.mem_flatMap]
    exact ⟨l, ih, by cases b <;> simp⟩
/- whatever comes up next has what f asks behind it; at the end all is done -/
def ordB (ops : Array Oper) (n : Nat) (f : Nat → (Nat → Bool) → Bool) : Bool :=
  (marks n).all fun l => (Region.ready .any ops l.toArray).all (fun i => f i (fun k => l.getD k false)) && (!(Region.ready .any ops l.toArray).isEmpty || l.all id)
theorem getD_set_mark (l : List Bool) (i k : Nat) (hi : i < l.length) : (l.set i true).getD k false = (k == i || l.getD k false) := by
  rw [List.getD_eq_getElem?_getD, List.getD_eq_getElem?_getD]
  by_cases h : k = i
  · subst h
    rw [List.getElem?_set_self hi]
    simp
  · rw [List.getElem?_set_ne (Ne.symm h)]
    have : (k == i) = false := beq_eq_false_iff_ne.2 h
    rw [this]
    simp
section
variable {ops : Array Oper} {Q : Exit → Act → World → Prop}
theorem ord_step (n : Nat) (f : Nat → (Nat → Bool) → Bool) (I : (Nat → Bool) → Act → World → Prop) (hr : ordB ops n f = true)
    (hs : ∀ i D a w, i < n → D i = false → f i D = true → I D a w → wpOp Tryz.prog ops Q i (fun a' w' => I (fun k => k == i || D k) a' w') a w)
    (hf : ∀ D a w, (∀ k, k < n → D k = true) → I D a w → Q .normal a w) :
    ∀ (m : Nat) (l : List Bool) (a : Act) (w : World), nzB l = m → l.length = n → I (fun k => l.getD k false) a w → wpAny Tryz.prog .any ops Q m l.toArray a w := by
  have key : ∀ l : List Bool, l.length = n → (∀ i ∈ Region.ready .any ops l.toArray, f i (fun k => l.getD k false) = true) ∧ (Region.ready .any ops l.toArray = [] → ∀ k, k < n → l.getD k false = true) := by
    intro l hl
    have h1 := List.all_eq_true.1 hr l (by rw [← hl]; exact mem_marks l)
    rw [Bool.and_eq_true, List.all_eq_true] at h1
    refine ⟨h1.1, fun he k hk => ?_⟩
    have h2 := h1.2
    rw [he] at h2
    have h3 : l.all id = true := by simpa using h2
    have h4 := List.all_eq_true.1 h3 (l[k]'(by omega)) (List.getElem_mem _)
    rw [List.getD_eq_getElem?_getD, List.getElem?_eq_getElem (by omega)]
    exact h4
  intro m
  induction m with
  | zero =>
    intro l a w hm hl h
    have hr : Region.ready .any ops l.toArray = [] := by
      rw [List.eq_nil_iff_forall_not_mem]
      intro i hi
      have := nzB_set l i (getD_false (mem_ready.1 hi).1)
      omega
    exact ⟨hr, hf _ _ _ ((key l hl).2 hr) h⟩
  | succ m ih =>
    intro l a w hm hl h
    refine ⟨fun hr => hf _ _ _ ((key l hl).2 hr) h, fun i hi => ?_⟩
    have h1 := getD_false (mem_ready.1 hi).1
    have hil : i < l.length := by
      rcases Nat.lt_or_ge i l.length with h2 | h2
      · exact h2
      · rw [List.getElem?_eq_none h2] at h1; cases h1
    have h3 := nzB_set l i h1
    refine wpOp_mono (fun a' w' g => ?_) (hs i (fun k => l.getD k false) a w (by omega) (by rw [List.getD_eq_getElem?_getD, h1]; rfl) ((key l hl).1 i hi) h)
    rw [List.setIfInBounds_toArray]
    refine ih _ _ _ (by omega) (by rw [List.length_set]; exact hl) ?_
    have he : (fun k => (l.set i true).getD k false) = (fun k => k == i || l.getD k false) := funext fun k => getD_set_mark l i k hil
    rw [he]
    exact g
theorem wp_region_ord {id : Nat} {a : Act} {w : World} (n : Nat) (f : Nat → (Nat → Bool) → Bool) (I : (Nat → Bool) → Act → World → Prop) (hm : Tryz.prog.follows .mixedOrders = true) (hz : ops.size = n) (hr : ordB ops n f = true)
    (h0 : I (fun _ => false) a w.drew)
    (hs : ∀ i D a w, i < n → D i = false → f i D = true → I D a w → wpOp Tryz.prog ops Q i (fun a' w' => I (fun k => k == i || D k) a' w') a w)
    (hf : ∀ D a w, (∀ k, k < n → D k = true) → I D a w → Q .normal a w) : (Code.region id ops true).wp Tryz.prog Q a w := by
  subst hz
  refine wp_region_any hm ?_
  have e : (List.replicate ops.size false).toArray = Array.replicate ops.size false := by simp
  rw [← e]
  refine ord_step _ f I hr hs hf _ _ _ _ (nzB_rep _) (by simp) ?_
  have he : (fun k => (List.replicate ops.size false).getD k false) = (fun _ => false) := funext fun k => by
    rw [List.getD_eq_getElem?_getD, List.getElem?_replicate]
    split <;> rfl
  rw [he]
  exact h0
end
end Go.Proofs.YtleeklcpbflfhaaGreatDoor
namespace Go.Proofs.YtleeklcpbflfhaaGreatDoor
open Go.RowKit

/- the two arrays of lists that Same makes, in whatever order -/
structure TwI (W : World) (V V2 : Rm.Rv) (D : Nat → Bool) (x5 x6 x9 x10 x11 x12 : Value) (b5 b6 : Nat) (w' : World) : Prop where
  gr : Gr W w'
  d0 : D 0 = true → x9 = .agg V.val
  d1 : D 1 = true → x10 = .agg (Rm.arr8 V)
  d2 : D 2 = true → x11 = .agg V2.val
  d3 : D 3 = true → x12 = .agg (Rm.arr8 V2)
  d4 : D 4 = true → x5 = .pointer (some ⟨b5, 0, none⟩) ∧ W.heap.size ≤ b5 ∧ ∃ cs : Array Value, w'.heap[b5]? = some (.cells cs 37 (0, 0)) ∧ cs.size = 8 ∧ (D 6 = true → cs = Rm.arr8 V)
  d5 : D 5 = true → x6 = .pointer (some ⟨b6, 0, none⟩) ∧ W.heap.size ≤ b6 ∧ ∃ cs : Array Value, w'.heap[b6]? = some (.cells cs 37 (0, 0)) ∧ cs.size = 8 ∧ (D 7 = true → cs = Rm.arr8 V2)
  o6 : D 6 = true → D 4 = true
  o7 : D 7 = true → D 5 = true
  ne : D 4 = true → D 5 = true → b5 ≠ b6
theorem Gr.obj {w w' : World} (h : Gr w w') {b : Nat} {o : Obj} (ho : w.heap[b]? = some o) : w'.heap[b]? = some o := (h.below.block b (Array.getElem?_eq_some_iff.1 ho).1).trans ho
theorem obj_lt {w : World} {b : Nat} {o : Obj} (ho : w.heap[b]? = some o) : b < w.heap.size := (Array.getElem?_eq_some_iff.1 ho).1
section
variable {W : World} {V V2 : Rm.Rv} {D : Nat → Bool} {x5 x6 x9 x10 x11 x12 : Value} {b5 b6 : Nat} {w' w'' : World}
theorem TwI.grow (h : TwI W V V2 D x5 x6 x9 x10 x11 x12 b5 b6 w') (hg : Gr w' w'') : TwI W V V2 D x5 x6 x9 x10 x11 x12 b5 b6 w'' :=
  ⟨h.gr.trans hg, h.d0, h.d1, h.d2, h.d3, fun e => by obtain ⟨p, q, cs, r, s⟩ := h.d4 e; exact ⟨p, q, cs, hg.obj r, s⟩, fun e => by obtain ⟨p, q, cs, r, s⟩ := h.d5 e; exact ⟨p, q, cs, hg.obj r, s⟩, h.o6, h.o7, h.ne⟩
theorem TwI.s0 (h : TwI W V V2 D x5 x6 x9 x10 x11 x12 b5 b6 w') : TwI W V V2 (fun k => k == 0 || D k) x5 x6 (.agg V.val) x10 x11 x12 b5 b6 w' :=
  ⟨h.gr, fun _ => rfl, fun e => h.d1 (by simpa using e), fun e => h.d2 (by simpa using e), fun e => h.d3 (by simpa using e), fun e => by simpa using h.d4 (by simpa using e), fun e => by simpa using h.d5 (by simpa using e), fun e => by simpa using h.o6 (by simpa using e), fun e => by simpa using h.o7 (by simpa using e), fun e e' => h.ne (by simpa using e) (by simpa using e')⟩
theorem TwI.s1 (h : TwI W V V2 D x5 x6 x9 x10 x11 x12 b5 b6 w') : TwI W V V2 (fun k => k == 1 || D k) x5 x6 x9 (.agg (Rm.arr8 V)) x11 x12 b5 b6 w' :=
  ⟨h.gr, fun e => h.d0 (by simpa using e), fun _ => rfl, fun e => h.d2 (by simpa using e), fun e => h.d3 (by simpa using e), fun e => by simpa using h.d4 (by simpa using e), fun e => by simpa using h.d5 (by simpa using e), fun e => by simpa using h.o6 (by simpa using e), fun e => by simpa using h.o7 (by simpa using e), fun e e' => h.ne (by simpa using e) (by simpa using e')⟩
theorem TwI.s2 (h : TwI W V V2 D x5 x6 x9 x10 x11 x12 b5 b6 w') : TwI W V V2 (fun k => k == 2 || D k) x5 x6 x9 x10 (.agg V2.val) x12 b5 b6 w' :=
  ⟨h.gr, fun e => h.d0 (by simpa using e), fun e => h.d1 (by simpa using e), fun _ => rfl, fun e => h.d3 (by simpa using e), fun e => by simpa using h.d4 (by simpa using e), fun e => by simpa using h.d5 (by simpa using e), fun e => by simpa using h.o6 (by simpa using e), fun e => by simpa using h.o7 (by simpa using e), fun e e' => h.ne (by simpa using e) (by simpa using e')⟩
theorem TwI.s3 (h : TwI W V V2 D x5 x6 x9 x10 x11 x12 b5 b6 w') : TwI W V V2 (fun k => k == 3 || D k) x5 x6 x9 x10 x11 (.agg (Rm.arr8 V2)) b5 b6 w' :=
  ⟨h.gr, fun e => h.d0 (by simpa using e), fun e => h.d1 (by simpa using e), fun e => h.d2 (by simpa using e), fun _ => rfl, fun e => by simpa using h.d4 (by simpa using e), fun e => by simpa using h.d5 (by simpa using e), fun e => by simpa using h.o6 (by simpa using e), fun e => by simpa using h.o7 (by simpa using e), fun e e' => h.ne (by simpa using e) (by simpa using e')⟩
theorem TwI.s4 (h : TwI W V V2 D x5 x6 x9 x10 x11 x12 b5 b6 w') (hD : D 4 = false) (cs : Array Value) (hz : cs.size = 8) : TwI W V V2 (fun k => k == 4 || D k) (.pointer (some ⟨w'.heap.size, 0, none⟩)) x6 x9 x10 x11 x12 w'.heap.size b6 (w'.alloc (.cells cs 37)) := by
  have hg : Gr w' (w'.alloc (.cells cs 37)) := (Gr.refl w').allocO _
  have h2 := h.grow hg
  refine ⟨h2.gr, fun e => h.d0 (by simpa using e), fun e => h.d1 (by simpa using e), fun e => h.d2 (by simpa using e), fun e => h.d3 (by simpa using e), fun _ => ⟨rfl, h.gr.lt, cs, heap_alloc_new _ _, hz, fun e => ?_⟩, fun e => by simpa using h2.d5 (by simpa using e), fun e => by simp, fun e => by simpa using h.o7 (by simpa using e), fun _ e' => ?_⟩
  · have := h.o6 (by simpa using e)
    rw [hD] at this; cases this
  · obtain ⟨_, _, cs2, r, _⟩ := h.d5 (by simpa using e')
    exact Ne.symm (Nat.ne_of_lt (obj_lt r))
theorem TwI.s5 (h : TwI W V V2 D x5 x6 x9 x10 x11 x12 b5 b6 w') (hD : D 5 = false) (cs : Array Value) (hz : cs.size = 8) : TwI W V V2 (fun k => k == 5 || D k) x5 (.pointer (some ⟨w'.heap.size, 0, none⟩)) x9 x10 x11 x12 b5 w'.heap.size (w'.alloc (.cells cs 37)) := by
  have hg : Gr w' (w'.alloc (.cells cs 37)) := (Gr.refl w').allocO _
  have h2 := h.grow hg
  refine ⟨h2.gr, fun e => h.d0 (by simpa using e), fun e => h.d1 (by simpa using e), fun e => h.d2 (by simpa using e), fun e => h.d3 (by simpa using e), fun e => by simpa using h2.d4 (by simpa using e), fun _ => ⟨rfl, h.gr.lt, cs, heap_alloc_new _ _, hz, fun e => ?_⟩, fun e => by simpa using h.o6 (by simpa using e), fun e => by simp, fun e _ => ?_⟩
  · have := h.o7 (by simpa using e)
    rw [hD] at this; cases this
  · obtain ⟨_, _, cs2, r, _⟩ := h.d4 (by simpa using e)
    exact Nat.ne_of_lt (obj_lt r)
theorem gr_setRow {W w' : World} {b : Nat} (h : Gr W w') (hb : W.heap.size ≤ b) (cs : Array Value) : Gr W (w'.setRow b cs) :=
  ⟨h.below.trans ((sm_setRow w' b cs).below (fun _ hk => Nat.ne_of_lt (Nat.lt_of_lt_of_le hk hb)) h.lt)⟩
theorem TwI.s6 (h : TwI W V V2 D x5 x6 x9 x10 x11 x12 b5 b6 w') (hD : D 4 = true) : TwI W V V2 (fun k => k == 6 || D k) x5 x6 x9 x10 x11 x12 b5 b6 (w'.setRow b5 (Rm.arr8 V)) := by
  obtain ⟨p, q, cs, r, s⟩ := h.d4 hD
  refine ⟨gr_setRow h.gr q _, fun e => h.d0 (by simpa using e), fun e => h.d1 (by simpa using e), fun e => h.d2 (by simpa using e), fun e => h.d3 (by simpa using e), fun _ => ⟨p, q, _, setRow_heap _ _ _ _ _ _ r, rfl, fun _ => rfl⟩, fun e => ?_, fun _ => by simpa using hD, fun e => by simpa using h.o7 (by simpa using e), fun e e' => h.ne (by simpa using e) (by simpa using e')⟩
  have e' : D 5 = true := by simpa using e
  obtain ⟨p2, q2, cs2, r2, s2⟩ := h.d5 e'
  exact ⟨p2, q2, cs2, by rw [setRow_other w' b5 b6 _ (Ne.symm (h.ne hD e'))]; exact r2, s2.1, fun e => s2.2 (by simpa using e)⟩
theorem TwI.s7 (h : TwI W V V2 D x5 x6 x9 x10 x11 x12 b5 b6 w') (hD : D 5 = true) : TwI W V V2 (fun k => k == 7 || D k) x5 x6 x9 x10 x11 x12 b5 b6 (w'.setRow b6 (Rm.arr8 V2)) := by
  obtain ⟨p, q, cs, r, s⟩ := h.d5 hD
  refine ⟨gr_setRow h.gr q _, fun e => h.d0 (by simpa using e), fun e => h.d1 (by simpa using e), fun e => h.d2 (by simpa using e), fun e => h.d3 (by simpa using e), fun e => ?_, fun _ => ⟨p, q, _, setRow_heap _ _ _ _ _ _ r, rfl, fun _ => rfl⟩, fun e => by simpa using h.o6 (by simpa using e), fun _ => by simpa using hD, fun e e' => h.ne (by simpa using e) (by simpa using e')⟩
  have e' : D 4 = true := by simpa using e
  obtain ⟨p2, q2, cs2, r2, s2⟩ := h.d4 e'
  exact ⟨p2, q2, cs2, by rw [setRow_other w' b6 b5 _ (h.ne e' hD)]; exact r2, s2.1, fun e => s2.2 (by simpa using e)⟩
end
def ordSame (i : Nat) (D : Nat → Bool) : Bool := if i = 1 then D 0 else if i = 3 then D 2 else if i = 6 then D 4 && D 1 else if i = 7 then D 5 && D 3 else true
set_option maxRecDepth 100000 in
set_option maxHeartbeats 16000000 in
theorem rsame_any (V V2 : Rm.Rv) (w : World) (hM : RuM w w.heap.size V) (hM2 : RuM w w.heap.size V2) (hd : V.day.n ≤ 140737488355328) (hn : ∀ i, i < 8 → (V.sl i).n ≤ 140737488355328) (q : Bool) (hq : q = true ↔ V.r = V2.r) :
    Calls Tryz.prog 14 #[.agg V.val, .agg V2.val] w fun e w' => e = .returned (.bool q) ∧ Gr w w' := by
  have hgA : Gr w (w.alloc (.cells V.val 27)) := (Gr.refl w).allocO _
  have hgB : Gr (w.alloc (.cells V.val 27)) ((w.alloc (.cells V.val 27)).alloc (.cells V2.val 27)) := (Gr.refl _).allocO _
  have hsz : (w.alloc (.cells V.val 27)).heap.size = w.heap.size + 1 := by simp
  have hB2 := (RBx.now w V 27).gr hgB
  have hB3 : RBx ((w.alloc (.cells V.val 27)).alloc (.cells V2.val 27)) (w.heap.size + 1) V2 := by
    rw [← hsz]
    exact RBx.now _ V2 27
  have cL := fun V w' => reflists_any V w'
  have hgw := hgA.trans hgB
  have HM := Lib.hid hM
  have HM2 := Lib.hid hM2
  have HQ := Lib.hid hq
  have HN := Lib.hid hn
  have HB2 := Lib.hid hB2
  have HB3 := Lib.hid hB3
  clear hM hM2 hq hn hgA hgB hsz hB2 hB3
  go_enter Tryz.func14, Tryz.ntmps14
  go_upto_region 1 with fail
  generalize (w.alloc (.cells V.val 27)).alloc (.cells V2.val 27) = W at *
  refine wp_region_ord 8 ordSame (fun D a w' => ∃ (x5 x6 x9 x10 x11 x12 : Value) (b5 b6 : Nat), a = { tmps := #[.agg V.val, .agg V2.val, .pointer (some ⟨w.heap.size, 0, none⟩), .pointer (some ⟨w.heap.size + 1, 0, none⟩), .bool false, x5, x6, undef, undef, x9, x10, x11, x12, undef, undef, undef, undef, undef, undef, undef, undef, undef, undef, undef, undef, undef, undef, undef, undef, undef, undef, undef, undef, undef, undef, undef, undef, undef, undef, undef, undef, undef, undef, undef, undef, undef, undef, undef, undef, undef, undef, undef, undef, undef, undef, undef, undef, undef, undef, undef, undef, undef, undef, undef, undef, undef, undef, undef, undef, undef, undef, undef, undef, undef, undef, undef, undef, undef, undef, undef, undef, undef, undef, undef, undef, undef, undef, undef, undef, undef], defers := [] } ∧ TwI W V V2 D x5 x6 x9 x10 x11 x12 b5 b6 w') (by kernel_rfl) rfl (by kernel_rfl) ?h0 ?hs ?hf
  case h0 =>
    refine ⟨undef, undef, undef, undef, undef, undef, 0, 0, rfl, ?_⟩
    constructor
    · exact (Gr.refl W).drew
    all_goals (intro h; cases h)
  case hs =>
    rintro i D a w1 hi hD hf ⟨x5, x6, x9, x10, x11, x12, b5, b6, rfl, h⟩
    have hB2 := HB2.out.gr h.gr
    have hB3 := HB3.out.gr h.gr
    rcases (show i = 0 ∨ i = 1 ∨ i = 2 ∨ i = 3 ∨ i = 4 ∨ i = 5 ∨ i = 6 ∨ i = 7 by omega) with rfl | rfl | rfl | rfl | rfl | rfl | rfl | rfl
    · as_aux_lemma =>
      refine wpOp_step (at_lit rfl) (fun K hK => ?_)
      clear hB3 hf hD
      obtain ⟨e0, e1, e2, e3, e4, e5, e6, e7, e8, e9, e10, e11, e12, e13, e14, e15, e16⟩ := hB2
      go_simp
      exact hK _ _ ⟨_, _, _, _, _, _, b5, b6, rfl, h.s0⟩
    · as_aux_lemma =>
      refine wpOp_step (at_lit rfl) (fun K hK => ?_)
      clear hB3 hB2
      have h9 := h.d0 hf
      subst h9
      go_simp
      refine (cL V w1).mono ?_
      rintro e w2 ⟨rfl, hg⟩
      exact hK _ _ ⟨_, _, _, _, _, _, b5, b6, rfl, (h.grow hg).s1⟩
    · as_aux_lemma =>
      refine wpOp_step (at_lit rfl) (fun K hK => ?_)
      clear hB2 hf hD
      obtain ⟨e0, e1, e2, e3, e4, e5, e6, e7, e8, e9, e10, e11, e12, e13, e14, e15, e16⟩ := hB3
      go_simp
      exact hK _ _ ⟨_, _, _, _, _, _, b5, b6, rfl, h.s2⟩
    · as_aux_lemma =>
      refine wpOp_step (at_lit rfl) (fun K hK => ?_)
      clear hB3 hB2
      have h9 := h.d2 hf
      subst h9
      go_simp
      refine (cL V2 w1).mono ?_
      rintro e w2 ⟨rfl, hg⟩
      exact hK _ _ ⟨_, _, _, _, _, _, b5, b6, rfl, (h.grow hg).s3⟩
    · as_aux_lemma =>
      refine wpOp_step (at_lit rfl) (fun K hK => ?_)
      clear hB3 hB2 hf
      go_simp
      exact hK _ _ ⟨_, _, _, _, _, _, _, b6, rfl, h.s4 hD _ rfl⟩
    · as_aux_lemma =>
      refine wpOp_step (at_lit rfl) (fun K hK => ?_)
      clear hB3 hB2 hf
      go_simp
      exact hK _ _ ⟨_, _, _, _, _, _, b5, _, rfl, h.s5 hD _ rfl⟩
    · as_aux_lemma =>
      refine wpOp_step (at_lit rfl) (fun K hK => ?_)
      clear hB3 hB2
      have hf2 : D 4 = true ∧ D 1 = true := by simpa [ordSame] using hf
      have h9 := h.d1 hf2.2
      subst h9
      obtain ⟨p, q1, cs, r, hz, _⟩ := h.d4 hf2.1
      subst p
      rw [if_pos (by rfl)]
      refine wp_store_row 37 (.tmp 5) (.tmp 10) rfl b5 (Rm.arr8 V) rfl rfl 37 _ r info_arr8 hz (arr8_one V) ?_
      exact hK _ _ ⟨_, _, _, _, _, _, b5, b6, rfl, h.s6 hf2.1⟩
    · as_aux_lemma =>
      refine wpOp_step (at_lit rfl) (fun K hK => ?_)
      clear hB3 hB2
      have hf2 : D 5 = true ∧ D 3 = true := by simpa [ordSame] using hf
      have h9 := h.d3 hf2.2
      subst h9
      obtain ⟨p, q1, cs, r, hz, _⟩ := h.d5 hf2.1
      subst p
      rw [if_pos (by rfl)]
      refine wp_store_row 37 (.tmp 6) (.tmp 12) rfl b6 (Rm.arr8 V2) rfl rfl 37 _ r info_arr8 hz (arr8_one V2) ?_
      exact hK _ _ ⟨_, _, _, _, _, _, b5, b6, rfl, h.s7 hf2.1⟩
  case hf =>
    rintro D a w3 hall ⟨x5, x6, x9, x10, x11, x12, b5, b6, rfl, h⟩
    have hg3 := h.gr
    obtain rfl := h.d0 (hall 0 (by decide))
    obtain rfl := h.d1 (hall 1 (by decide))
    obtain rfl := h.d2 (hall 2 (by decide))
    obtain rfl := h.d3 (hall 3 (by decide))
    obtain ⟨p5, _, cs5, r5, s5⟩ := h.d4 (hall 4 (by decide))
    obtain ⟨p6, _, cs6, r6, s6⟩ := h.d5 (hall 5 (by decide))
    obtain rfl := p5
    obtain rfl := p6
    obtain rfl := s5.2 (hall 6 (by decide))
    obtain rfl := s6.2 (hall 7 (by decide))
    have k5 := fun k hk => arr8_cell (k := k) r5 hk
    have k6 := fun k hk => arr8_cell (k := k) r6 hk
    have H5 := Lib.hid k5
    have H6 := Lib.hid k6
    have hB2 := HB2.out.gr hg3
    have hB3 := HB3.out.gr hg3
    have hgw := hgw.trans hg3
    clear h hall k5 k6 r5 r6 s5 s6 HB2 HB3 cL hg3
    have HB2 := Lib.hid hB2
    have HB3 := Lib.hid hB3
    clear hB2 hB3
    generalize Value.agg (Rm.arr8 V) = y10 at *
    generalize Value.agg (Rm.arr8 V2) = y12 at *
    generalize Value.agg V.val = y9 at *
    generalize Value.agg V2.val = y11 at *
    go_wp2
    go_loopg [13] 8 (fun g v wx => ∃ k : Nat, v = .int .i64 (k : Int) ∧ k + g = 8 ∧ Gr w3 wx ∧ Hid (∀ i, i < k → V.r.ls i = V2.r.ls i))
    case atStart => exact ⟨0, rfl, rfl, Gr.refl _, Lib.hid (fun i h => absurd h (by omega))⟩
    case round =>
      obtain ⟨k, rfl, hkg, hg, HE⟩ := hrel
      have HG := Lib.hid hkg
      clear hkg
      have HGW := Lib.hid (hgw.trans hg)
      by_cases hk : k < 8
      · have hkn : (k : Int) < 8 := by omega
        have v5 := after_cell (gr_cell hg (H5.out k hk))
        have v6 := after_cell (gr_cell hg (H6.out k hk))
        have HK := Lib.hid hk
        have cE := fun w' (h : Gr wr w') => (ints_any (V.sl k).A (V2.sl k).A (V.sl k).n (V.sl k).c (V2.sl k).n (V2.sl k).c (V.r.ls k) (V2.r.ls k) w' (((HM.out.gr HGW.out).gr h).l k hk) (((HM2.out.gr HGW.out).gr h).l k hk) (HN.out k hk) (decide (V.r.ls k = V2.r.ls k)) (by simp)).mono (fun e w'' h => (⟨h.1, by obtain ⟨_, d, rfl⟩ := h; exact (Gr.refl _).drewN d⟩ : e = .returned (.bool (decide (V.r.ls k = V2.r.ls k))) ∧ Gr w' w''))
        have HG0 := Lib.hid hg
        clear hg hgw
        rcases he : decide (V.r.ls k = V2.r.ls k)
        · as_aux_lemma =>
          have HR : Hid (q = false) := Lib.hid (by
            cases h : q
            · rfl
            · rw [HQ.out.1 h] at he
              simp at he)
          rw [he] at cE
          clear he
          generalize (V.sl k).A = A at *
          generalize (V.sl k).n = n at *
          generalize (V.sl k).c = c at *
          generalize (V2.sl k).A = A2 at *
          generalize (V2.sl k).n = n2 at *
          generalize (V2.sl k).c = c2 at *
          go_wp2_with fail
          refine wp_region_after (by kernel_rfl) (by kernel_rfl) ?_
          repeat (go_big_quiet_step (first | (go_at_call 40; exact qafter (cE _ (by exact (After.gr _))))))
          refine wpQuiet_nil ?_
          rintro _ ⟨⟨w6, hg6⟩, rfl⟩
          go_wp2
          go_ret
          exact ⟨ret_bool HR.out.symm, HGW.out.trans hg6⟩
        · as_aux_lemma =>
          have HR : Hid (∀ i, i < k + 1 → V.r.ls i = V2.r.ls i) := Lib.hid (fun i hi => by
            rcases Nat.lt_or_ge i k with h1 | h1
            · exact HE.out i h1
            · obtain rfl : i = k := by omega
              exact of_decide_eq_true he)
          rw [he] at cE
          clear he
          generalize (V.sl k).A = A at *
          generalize (V.sl k).n = n at *
          generalize (V.sl k).c = c at *
          generalize (V2.sl k).A = A2 at *
          generalize (V2.sl k).n = n2 at *
          generalize (V2.sl k).c = c2 at *
          go_wp2_with fail
          refine wp_region_after (by kernel_rfl) (by kernel_rfl) ?_
          repeat (go_big_quiet_step (first | (go_at_call 40; exact qafter (cE _ (by exact (After.gr _))))))
          refine wpQuiet_nil ?_
          rintro _ ⟨⟨w6, hg6⟩, rfl⟩
          go_wp2
          go_roundg (8 - (k + 1))
          case measure => have := HG.out; have := HK.out; omega
          case rel => exact ⟨k + 1, by go_num, by have := HK.out; omega, HG0.out.trans hg6, HR⟩
      · obtain rfl : k = 8 := by have := HG.out; omega
        have hBa := HB2.out.gr hg
        have hBb := HB3.out.gr hg
        have hDa := (HM.out.gr HGW.out).d
        have hDb := (HM2.out.gr HGW.out).d
        have HX : Hid (q = true ↔ (V.r.freq = V2.r.freq ∧ V.r.ivl = V2.r.ivl ∧ V.r.cnt = V2.r.cnt ∧ (V.r.uk = V2.r.uk ∧ V.r.ua = V2.r.ua ∧ V.z.toList = V2.z.toList) ∧ V.r.has = V2.r.has ∧ V.r.st = V2.r.st ∧ V.r.day = V2.r.day)) := Lib.hid (by
          rw [HQ.out, z_eq HM.out.z HM2.out.z]
          exact ⟨fun h => by rw [h]; exact ⟨rfl, rfl, rfl, ⟨rfl, rfl, rfl⟩, rfl, rfl, rfl⟩, fun ⟨h0, h1, h2, ⟨h3, h4, h5⟩, h6, h7, h9⟩ => Rm.Ru.eq_of h0 h1 h2 h3 h4 h5 h6 h7 HE.out h9⟩)
        have hl := hDa.1
        have hl2 := hDb.1
        have HF := Lib.hid (And.intro hBa hBb)
        have HG8 := HGW
        have c11 := hBa.c11
        have d11 := hBb.c11
        clear hBa hBb HQ HM HM2 HN HE HB2 HB3 HG hg hgw H5 H6
        generalize V.r.day = ls at *
        generalize V2.r.day = ms at *
        generalize hVA : V.day.A = A at *
        generalize hWA : V2.day.A = A2 at *
        generalize hVn : V.day.n = n at *
        generalize hWn : V2.day.n = n2 at *
        generalize hVc : V.day.c = c at *
        generalize hWc : V2.day.c = c2 at *
        by_cases hnn : n = n2
        · subst hnn
          have HL := Lib.hid (And.intro hl hl2)
          have HW := Lib.hid (And.intro hVA (And.intro hVn (And.intro hVc (And.intro hWA (And.intro hWn hWc)))))
          clear hl hl2 hVA hVn hVc hWA hWn hWc
          go_wp2
          go_loopg [35] n (fun g v wx => ∃ k : Nat, v = .int .i64 (k : Int) ∧ k + g = n ∧ (∃ d, wx = wr.drewN d) ∧ Hid (ls.take k = ms.take k))
          case atStart => exact ⟨0, rfl, by omega, ⟨0, rfl⟩, Lib.hid (by simp)⟩
          case round =>
            obtain ⟨k, rfl, hkg, ⟨d, rfl⟩, HT⟩ := hrel
            have HG := Lib.hid hkg
            clear hkg
            by_cases hk : k < n
            · obtain ⟨ad, hk', rfl, hbl, hcell0, hcell1⟩ := hDa.at_ hk
              obtain ⟨ad2, hk2, rfl, hbl2, hcell20, hcell21⟩ := hDb.at_ hk
              have HT1 := Lib.hid (List.take_succ_eq_append_getElem hk')
              have HT2 := Lib.hid (List.take_succ_eq_append_getElem hk2)
              have HY := Lib.hid (fun (h : ls = ms) => show ls[k] = ms[k] by subst h; rfl)
              by_cases he : ls[k] = ms[k]
              · as_aux_lemma =>
                have HE : Hid (ls.take (k + 1) = ms.take (k + 1)) := Lib.hid (by rw [HT1.out, HT2.out, HT.out, he])
                rw [he] at hcell0 hcell1
                clear he HY HT1 HT2
                generalize ms[k] = y at *
                obtain ⟨y1, y2⟩ := y
                dsimp only [dv1, dv2] at *
                go_wp2
                go_quiet (fail)
                go_wp2
                go_roundg (n - (k + 1))
                case measure => have := HG.out; omega
                case rel => exact ⟨k + 1, by go_num, by omega, ⟨_, rfl⟩, HE⟩
              · as_aux_lemma =>
                have HR : Hid (q = false) := Lib.hid (by
                  cases hc : q
                  · rfl
                  · exact absurd (HY.out (HX.out.1 hc).2.2.2.2.2.2) he)
                clear HX HY HT1 HT2
                generalize ls[k] = x at *
                generalize ms[k] = y at *
                obtain ⟨x1, x2⟩ := x
                obtain ⟨y1, y2⟩ := y
                dsimp only [dv1, dv2] at *
                by_cases h1 : x1 = y1
                · subst h1
                  have h2 : ¬ x2 = y2 := fun h => he (by rw [h])
                  clear he
                  go_wp2
                  go_quiet (fail)
                  go_wp2
                  go_ret
                  exact ⟨ret_bool HR.out.symm, HG8.out.trans (((Gr.refl _).drewN _).drewN _)⟩
                · clear he
                  go_wp2
                  go_quiet (fail)
                  go_wp2
                  go_ret
                  exact ⟨ret_bool HR.out.symm, HG8.out.trans (((Gr.refl _).drewN _).drewN _)⟩
            · obtain rfl : k = n := by have := HG.out; omega
              have HE : Hid (ls = ms) := Lib.hid (by
                have h := HT.out
                rwa [List.take_of_length_le (by rw [HL.out.1]; exact Nat.le_refl _), List.take_of_length_le (by rw [HL.out.2]; exact Nat.le_refl _)] at h)
              have HX2 : Hid (q = true ↔ (V.r.freq = V2.r.freq ∧ V.r.ivl = V2.r.ivl ∧ V.r.cnt = V2.r.cnt ∧ (V.r.uk = V2.r.uk ∧ V.r.ua = V2.r.ua ∧ V.z.toList = V2.z.toList) ∧ V.r.has = V2.r.has ∧ V.r.st = V2.r.st)) := Lib.hid (by
                rw [HX.out]
                exact ⟨fun ⟨h0, h1, h2, h3, h6, h7, _⟩ => ⟨h0, h1, h2, h3, h6, h7⟩, fun ⟨h0, h1, h2, h3, h6, h7⟩ => ⟨h0, h1, h2, h3, h6, h7, HE.out⟩⟩)
              have HGd := Lib.hid (HG8.out.trans ((Gr.refl wr).drewN d))
              obtain ⟨e0, e1, e2, e3, e4, e5, e6, e7, e8, e9, e10, e11, e12, e13, e14, e15, e16⟩ := HF.out.1.gr ((Gr.refl wr).drewN d)
              obtain ⟨f0, f1, f2, f3, f4, f5, f6, f7, f8, f9, f10, f11, f12, f13, f14, f15, f16⟩ := HF.out.2.gr ((Gr.refl wr).drewN d)
              clear e8 e9 e10 e11 e12 e13 e14 e15 e16 f8 f9 f10 f11 f12 f13 f14 f15 f16 HX HE HT HF HG HL HW hDa hDb c11 d11
              generalize wr.drewN d = wz at *
              generalize V.r.freq = a0 at *
              generalize V2.r.freq = b0 at *
              generalize V.r.ivl = a1 at *
              generalize V2.r.ivl = b1 at *
              generalize V.r.cnt = a2 at *
              generalize V2.r.cnt = b2 at *
              generalize V.r.uk = a3 at *
              generalize V2.r.uk = b3 at *
              generalize V.r.ua = a4 at *
              generalize V2.r.ua = b4 at *
              generalize V.r.has = a6 at *
              generalize V2.r.has = b6 at *
              generalize V.r.st = a7 at *
              generalize V2.r.st = b7 at *
              generalize V.z = az at *
              generalize V2.z = bz at *
              by_cases hne : a0 = b0
              · subst hne
                by_cases hne : a1 = b1
                · subst hne
                  by_cases hne : a2 = b2
                  · subst hne
                    by_cases hne : a3 = b3
                    · subst hne
                      by_cases hne : a4 = b4
                      · subst hne
                        by_cases hne : az.toList = bz.toList
                        · obtain rfl : az = bz := z_eq2 (by rw [Lib.toList_data, Lib.toList_data] at hne; exact hne)
                          clear hne
                          by_cases hne : a6 = b6
                          · subst hne
                            by_cases hne : a7 = b7
                            · subst hne
                              as_aux_lemma =>
                                have HR : Hid (q = true) := Lib.hid (HX2.out.2 ⟨rfl, rfl, rfl, ⟨rfl, rfl, rfl⟩, rfl, rfl⟩)
                                clear HX2
                                go_wp2_with fail
                                go_ret
                                exact ⟨ret_bool HR.out.symm, HGd.out⟩
                            · as_aux_lemma =>
                              have HR : Hid (q = false) := Lib.hid (by
                                cases h : q
                                · rfl
                                · have h2 := HX2.out.1 h
                                  exact absurd h2.2.2.2.2.2 hne)
                              have hnb : (a7 == b7) = false := beq_eq_false_iff_ne.2 hne
                              clear hne
                              clear HX2
                              go_wp2_with fail
                              go_ret
                              exact ⟨ret_bool HR.out.symm, HGd.out⟩
                          · as_aux_lemma =>
                            have HR : Hid (q = false) := Lib.hid (by
                              cases h : q
                              · rfl
                              · have h2 := HX2.out.1 h
                                exact absurd h2.2.2.2.2.1 hne)
                            have hnb : (a6 == b6) = false := beq_eq_false_iff_ne.2 hne
                            clear hne
                            clear HX2
                            go_wp2_with fail
                            go_ret
                            exact ⟨ret_bool HR.out.symm, HGd.out⟩
                        · as_aux_lemma =>
                          have HR : Hid (q = false) := Lib.hid (by
                            cases h : q
                            · rfl
                            · have h2 := HX2.out.1 h
                              exact absurd h2.2.2.2.1.2.2 hne)
                          clear HX2
                          go_wp2_with fail
                          go_ret
                          exact ⟨ret_bool HR.out.symm, HGd.out⟩
                      · as_aux_lemma =>
                        have HR : Hid (q = false) := Lib.hid (by
                          cases h : q
                          · rfl
                          · have h2 := HX2.out.1 h
                            exact absurd h2.2.2.2.1.2.1 hne)
                        clear HX2
                        go_wp2_with fail
                        go_ret
                        exact ⟨ret_bool HR.out.symm, HGd.out⟩
                    · as_aux_lemma =>
                      have HR : Hid (q = false) := Lib.hid (by
                        cases h : q
                        · rfl
                        · have h2 := HX2.out.1 h
                          exact absurd h2.2.2.2.1.1 hne)
                      clear HX2
                      go_wp2_with fail
                      go_ret
                      exact ⟨ret_bool HR.out.symm, HGd.out⟩
                  · as_aux_lemma =>
                    have HR : Hid (q = false) := Lib.hid (by
                      cases h : q
                      · rfl
                      · have h2 := HX2.out.1 h
                        exact absurd h2.2.2.1 hne)
                    have hnb : (a2 == b2) = false := beq_eq_false_iff_ne.2 hne
                    clear hne
                    clear HX2
                    go_wp2_with fail
                    go_ret
                    exact ⟨ret_bool HR.out.symm, HGd.out⟩
                · as_aux_lemma =>
                  have HR : Hid (q = false) := Lib.hid (by
                    cases h : q
                    · rfl
                    · have h2 := HX2.out.1 h
                      exact absurd h2.2.1 hne)
                  have hnb : (a1 == b1) = false := beq_eq_false_iff_ne.2 hne
                  clear hne
                  clear HX2
                  go_wp2_with fail
                  go_ret
                  exact ⟨ret_bool HR.out.symm, HGd.out⟩
              · as_aux_lemma =>
                have HR : Hid (q = false) := Lib.hid (by
                  cases h : q
                  · rfl
                  · have h2 := HX2.out.1 h
                    exact absurd h2.1 hne)
                have hnb : (a0 == b0) = false := beq_eq_false_iff_ne.2 hne
                clear hne
                clear HX2
                go_wp2_with fail
                go_ret
                exact ⟨ret_bool HR.out.symm, HGd.out⟩
        · have HR : Hid (q = false) := Lib.hid (by
            cases hc : q
            · rfl
            · exact absurd (by rw [← hl, ← hl2, (HX.out.1 hc).2.2.2.2.2.2]) hnn)
          have hne : ((n : Int) == (n2 : Int)) = false := by rw [beq_eq_false_iff_ne]; omega
          clear hl hl2 HX hnn
          go_wp2
          go_ret
          exact ⟨ret_bool HR.out.symm, HG8.out⟩
end Go.Proofs.YtleeklcpbflfhaaGreatDoor
