/- The texts Rf, RcSplit, RcCut, one behind the other. -/
import Derived.Test.YtleeklcpbflfhaaGreatDoorZA
import Derived.RangeFuncNested
import Derived.RangeFuncBound
import Derived.RangeFuncCalls
import Derived.RangeFuncLeaves
import Derived.Test.YtleeklcpbflfhaaGreatDoorZE
import Derived.Test.YtleeklcpbflfhaaGreatDoorZShelf3
import Derived.Shelf.Abstract
import Derived.Shelf.RegionOpen
import Derived.OwnWalkIn
import Derived.TacticsInMore
import Derived.LoopNIn
import Derived.LoopIn
import Derived.Laws.ResultCell
namespace Go.Proofs.YtleeklcpbflfhaaGreatDoor
open Go.RowKit

/- the blocks in K lie as they lay -/
structure Sm (K : Nat → Prop) (W W' : World) : Prop where
  os : W'.os = W.os
  tape : W'.tape = W.tape
  output : W'.output = W.output
  size : W.heap.size ≤ W'.heap.size
  same : ∀ k, k < W.heap.size → K k → W'.heap[k]? = W.heap[k]?
theorem Sm.refl (K : Nat → Prop) (W : World) : Sm K W W := ⟨rfl, rfl, rfl, Nat.le_refl _, fun _ _ _ => rfl⟩
theorem Sm.trans {K : Nat → Prop} {a b c : World} (h : Sm K a b) (k : Sm K b c) : Sm K a c :=
  ⟨k.os.trans h.os, k.tape.trans h.tape, k.output.trans h.output, Nat.le_trans h.size k.size, fun i hi hk => (k.same i (Nat.lt_of_lt_of_le hi h.size) hk).trans (h.same i hi hk)⟩
theorem Sm.weak {K K' : Nat → Prop} {W W' : World} (h : Sm K W W') (hk : ∀ k, K' k → K k) : Sm K' W W' := ⟨h.os, h.tape, h.output, h.size, fun i hi hK => h.same i hi (hk i hK)⟩
theorem Gr.sm {W W' : World} (h : Gr W W') (K : Nat → Prop) : Sm K W W' := ⟨h.below.os, h.below.tape, h.below.output, h.below.size, fun i hi _ => h.below.block i hi⟩
theorem Below.sm {B : Nat} {W W' : World} (h : Below B W W') {K : Nat → Prop} (hK : ∀ k, K k → k < B) : Sm K W W' := ⟨h.os, h.tape, h.output, h.size, fun i _ hk => h.block i (hK i hk)⟩
theorem Sm.below {K : Nat → Prop} {B : Nat} {W W' : World} (h : Sm K W W') (hB : ∀ k, k < B → K k) (hs : B ≤ W.heap.size) : Below B W W' := ⟨h.os, h.tape, h.output, h.size, fun i hi => h.same i (by omega) (hB i hi)⟩
theorem Sm.putObj (K : Nat → Prop) (W : World) {l : Nat} (o : Obj) (hl : ¬ K l) : Sm K W (W.putObj l o) :=
  ⟨rfl, rfl, rfl, by simp, fun k _ hk => World.putObj_heap_other (fun e => hl (e ▸ hk))⟩
theorem Sm.setCell (K : Nat → Prop) (W : World) (a : Addr) (v : Value) (h : ¬ K a.block) : Sm K W (W.setCell a v) :=
  ⟨rfl, rfl, rfl, by simp [World.setCell], fun k _ hk => Below.heap_setCell W a v k (fun e => h (e ▸ hk))⟩
theorem Sm.alloc (K : Nat → Prop) (W : World) (o : Obj) : Sm K W (W.alloc o) := ⟨rfl, rfl, rfl, by simp, fun k hk _ => Below.heap_alloc W o k hk⟩
theorem Sm.cell {K : Nat → Prop} {W W' : World} (h : Sm K W W') {a : Addr} {v : Value} (hk : K a.block) (hc : W.cell? a = some v) : W'.cell? a = some v := by
  have hb := World.block_lt_of_cell? _ _ hc
  unfold World.cell? at hc ⊢
  rw [h.same _ hb hk]; exact hc
theorem Sm.frozen {K : Nat → Prop} {W W' : World} (h : Sm K W W') {a : Addr} (hb : a.block < W.heap.size) (hk : K a.block) : W'.frozen? a = W.frozen? a := by
  unfold World.frozen?; rw [h.same _ hb hk]
theorem Sm.obj {K : Nat → Prop} {W W' : World} (h : Sm K W W') {k : Nat} {o : Obj} (hk : K k) (ho : W.heap[k]? = some o) : W'.heap[k]? = some o :=
  (h.same k (Array.getElem?_eq_some_iff.1 ho).1 hk).trans ho

/- the iterator's contract: what it gives is xs, in this order; it turns no block in Kj and asks that a round turn none in Kr -/
def SeqB {α : Type} (m : Nat) (P : Program) (gf : Nat) (lb : Array Value) (encs : α → Array Value) (Kj Kr : Nat → Prop) (xs : List α) (w : World) : Prop :=
  ∀ (l : Nat) (J Jx : List α → World → Prop) (W : World), Gr w W → (∀ s A B, J s A → Sm Kj A B → J s B) → (∀ s A B, Jx s A → Sm Kj A B → Jx s B) →
    (∀ pre x W1, J pre W1 → pre ++ [x] <+: xs → YieldAt Fence.wide (m - 1) P l (encs x) W1 fun e W' =>
      (e = .returned (.bool true) ∧ J (pre ++ [x]) W' ∧ Sm Kr W1 W') ∨ (e = .returned (.bool false) ∧ Jx (pre ++ [x]) W')) →
    J [] W →
    CallsIn Fence.wide m P gf (#[.func (.yield l) #[] #[]] ++ lb) W fun e W' => (∃ v, e = .returned v) ∧ (J xs W' ∨ ∃ pre, pre <+: xs ∧ Jx pre W')

/- how a round may be left -/
def bdPost {α : Type} (Kb : Nat → Prop) (I : List α → World → Prop) (Ix : Code → List α → World → Prop) (xs : List α) (W : World) : Exit → Act → World → Prop
  | .normal, _, W' => Sm Kb W W' ∧ I xs W'
  | .ret, _, W' => Sm Kb W W' ∧ Ix .ret xs W'
  | .exit id, _, W' => Sm Kb W W' ∧ Ix (.exit id) xs W'
  | .goto t, _, W' => Sm Kb W W' ∧ Ix (.goto t) xs W'
  | .panic _, _, _ => False
  | .outgrown, _, _ => False

theorem rangeB {α : Type} {P : Program} {n : Nat} {g : Operand} {ps : Array Tmp} {assign body : Code} {Q : Exit → Act → World → Prop} {a : Act} {w : World}
    {gf : Nat} {lb : Array Value} (hg : a.eval g = .func (.func gf) #[] lb) (eg : ∀ args w, (callFunc gf args).run P w = .ok (.enter gf args) w)
    {encs : α → Array Value} (hps : ∀ x, (encs x).size = ps.size) {Kj Kr Kb : Nat → Prop} {xs : List α} (hseq : SeqB (n - 1) P gf lb encs Kj Kr xs w)
    (hjD : Kj w.heap.size) (hjL : Kj (w.heap.size + 1)) (hbD : Kb w.heap.size) (hbL : Kb (w.heap.size + 1)) (hrb : ∀ k, Kr k → Kb k ∧ k ≠ w.heap.size + 1)
    (I : List α → World → Prop) (Ix : Code → List α → World → Prop) (hI : ∀ s A B, I s A → Sm (fun k => Kj k ∧ k ≠ w.heap.size ∧ k ≠ w.heap.size + 1) A B → I s B)
    (hIx : ∀ c s A B, Ix c s A → Sm (fun k => Kj k ∧ k ≠ w.heap.size ∧ k ≠ w.heap.size + 1) A B → Ix c s B) (h0 : I [] w) (a₁ : α → Act)
    (hassign : ∀ (l : Nat) (x : α) (W : World) (K : Act → World → Prop), K (a₁ x) W →
      assign.wpIn (Fence.wide.inRound l) (n - 1 - 1) P (Exit.then K (fun _ _ _ => False)) { tmps := (ps.zip (encs x)).foldl (fun t (p, v) => t.setIfInBounds p v) a.tmps, defers := [] } W)
    (hbody : ∀ (l : Nat) (pre : List α) (x : α) (W : World), w.heap.size + 2 ≤ W.heap.size → I pre W → pre ++ [x] <+: xs → body.wpIn (Fence.wide.inRound l) (n - 1 - 1) P (bdPost Kb I Ix (pre ++ [x]) W) (a₁ x) W)
    (hdone : ∀ (D : Nat) (W : World), D = w.heap.size → I xs W → W.heap[D]? = some (.deferred (some [])) → Q .normal { a with defers := { target := .collected D, args := #[] } :: a.defers } W)
    (hstop : ∀ (D : Nat) (c : Code) (pre : List α) (W : World), D = w.heap.size → pre <+: xs → Ix c pre W → W.heap[D]? = some (.deferred (some [])) → c.wpIn Fence.wide n P Q { a with defers := { target := .collected D, args := #[] } :: a.defers } W) :
    (Code.rangeFunc g ps assign body).wpIn Fence.wide n P Q a w := by
  have hwd : ∀ {p : Prop}, Fence.wide.depth.isSome = true → p := fun h => by simp [Fence.wide] at h
  refine wpIn_rangeFunc ?_
  intro fn hfn
  obtain ⟨rec, hrec⟩ : ∃ rec : LoopState → Option Code → Loop, rec = fun st pe => { state := st, pending := pe, fn, tmps := a.tmps, params := ps, assign, body, defers := w.heap.size } := ⟨_, rfl⟩
  obtain ⟨W1, hW1⟩ : ∃ W1, (w.alloc (.deferred (some []))).alloc (.loop (rec .ready none)) = W1 := ⟨_, rfl⟩
  have hg1 : Gr w W1 := by rw [← hW1]; exact ⟨((Below.refl _ w).alloc (Nat.le_refl _) _).alloc (by simp) _⟩
  have hs1 : W1.heap.size = w.heap.size + 2 := by rw [← hW1]; simp
  have hL1 : W1.heap[w.heap.size + 1]? = some (.loop (rec .ready none)) := by
    rw [← hW1]; have := World.alloc_heap_new (w.alloc (.deferred (some []))) (.loop (rec .ready none)); rwa [World.size_alloc] at this
  have hK1 : W1.heap[w.heap.size]? = some (.deferred (some [])) := by
    rw [← hW1]; exact (Below.heap_alloc _ _ _ (by simp)).trans (World.alloc_heap_new w _)
  have hI1 : I [] W1 := hI _ _ _ h0 (hg1.sm _)
  refine ⟨w.heap.size + 1, [{ target := .collected w.heap.size, args := #[] }], W1, { target := .fn (.func gf) lb, args := #[.func (.yield (w.heap.size + 1)) #[] #[]] }, W1, gf,
    #[.func (.yield (w.heap.size + 1)) #[] #[]] ++ lb, W1, ?_, ?_, ?_, ?_, hwd, ?_⟩
  · rw [← hW1, hrec]; exact run_enterLoop_outer _ _ _ _ _
  · simp only [resolve, hg]
    simp [go_sem]
  · intro f' _; trivial
  · simp [invoke, go_sem, eg]
  have put : ∀ (W : World) (o : Obj), Sm (fun k => Kj k ∧ k ≠ w.heap.size ∧ k ≠ w.heap.size + 1) W (W.putObj (w.heap.size + 1) o) := fun W o => Sm.putObj _ W o (fun h => h.2.2 rfl)
  have toI : ∀ {A B : World}, Sm Kj A B → Sm (fun k => Kj k ∧ k ≠ w.heap.size ∧ k ≠ w.heap.size + 1) A B := fun h => h.weak (fun k hk => hk.1)
  refine (hseq (w.heap.size + 1)
    (fun pre W => w.heap.size + 2 ≤ W.heap.size ∧ I pre W ∧ W.heap[w.heap.size + 1]? = some (.loop (rec .ready none)) ∧ W.heap[w.heap.size]? = some (.deferred (some [])))
    (fun pre W => ∃ c, Ix c pre W ∧ W.heap[w.heap.size + 1]? = some (.loop (rec .done (some c))) ∧ W.heap[w.heap.size]? = some (.deferred (some [])))
    W1 hg1
    (fun s A B ⟨hz, hi, hl, hk⟩ hs => ⟨Nat.le_trans hz hs.size, hI s A B hi (toI hs), hs.obj hjL hl, hs.obj hjD hk⟩)
    (fun s A B ⟨c, hi, hl, hk⟩ hs => ⟨c, hIx c s A B hi (toI hs), hs.obj hjL hl, hs.obj hjD hk⟩)
    ?_ ⟨by omega, hI1, hL1, hK1⟩).mono ?_
  · rintro pre x W ⟨hz, hi, hl, hk⟩ hpre
    have hy := run_yield (P := P) (args := encs x) hl (by rw [hrec]; exact hps x)
    rw [hrec] at hy
    refine ⟨fn, _, assign, body, hy, roundIn_of_wpIn hfn (hassign _ x W _ ⟨_, run_beginRound hl (by rw [hrec]), ?_⟩)⟩
    obtain ⟨W2, hW2⟩ : ∃ W2, W.putObj (w.heap.size + 1) (.loop { rec .ready none with state := .busy }) = W2 := ⟨_, rfl⟩
    have hl2 : W2.heap[w.heap.size + 1]? = some (.loop { rec .ready none with state := .busy }) := by rw [← hW2]; exact World.putObj_heap_same (by omega)
    have hk2 : W2.heap[w.heap.size]? = some (.deferred (some [])) := by rw [← hW2]; exact (World.putObj_heap_other (by omega)).trans hk
    have hi2 : I pre W2 := by rw [← hW2]; exact hI _ _ _ hi (put _ _)
    have hz2 : w.heap.size + 2 ≤ W2.heap.size := by rw [← hW2]; simpa using hz
    have hr2 : Sm Kr W W2 := by rw [← hW2]; exact Sm.putObj _ _ _ (fun h => (hrb _ h).2 rfl)
    rw [hW2]
    refine wpIn_mono (hbody _ pre x W2 hz2 hi2 hpre) ?_
    have fin : ∀ (jump : Option Code) (W3 : World), Sm Kb W2 W3 →
        ∃ W4, (Instr.endRound (w.heap.size + 1) jump).run P W3 = .ok (.bool jump.isNone) W4 ∧ W4 = W3.putObj (w.heap.size + 1) (.loop (rec (if jump.isNone then .ready else .done) jump)) ∧
          W4.heap[w.heap.size + 1]? = some (.loop (rec (if jump.isNone then .ready else .done) jump)) ∧ W4.heap[w.heap.size]? = some (.deferred (some [])) ∧ w.heap.size + 2 ≤ W4.heap.size := fun jump W3 hk3 => by
      have hl3 := hk3.obj hbL hl2
      have hz3 := Nat.le_trans hz2 hk3.size
      have := run_endRound (P := P) jump hl3
      rw [hrec] at this ⊢
      exact ⟨_, this, rfl, World.putObj_heap_same (by omega), (World.putObj_heap_other (by omega)).trans (hk3.obj hbD hk2), by simpa using hz3⟩
    rintro e a3 W3 hp
    cases e with
    | normal =>
      obtain ⟨hk3, hi3⟩ := hp
      obtain ⟨W4, hr, e4, hl4, hk4, hz4⟩ := fin none W3 hk3
      refine ⟨_, _, hr, .inl ⟨rfl, ⟨hz4, by rw [e4]; exact hI _ _ _ hi3 (put _ _), hl4, hk4⟩, ?_⟩⟩
      rw [e4]
      exact hr2.trans ((hk3.weak (fun k hk => (hrb k hk).1)).trans (Sm.putObj _ _ _ (fun h => (hrb _ h).2 rfl)))
    | ret =>
      obtain ⟨hk3, hi3⟩ := hp
      obtain ⟨W4, hr, e4, hl4, hk4, _⟩ := fin (some .ret) W3 hk3
      exact ⟨_, _, hr, .inr ⟨rfl, .ret, by rw [e4]; exact hIx _ _ _ _ hi3 (put _ _), hl4, hk4⟩⟩
    | exit id =>
      obtain ⟨hk3, hi3⟩ := hp
      obtain ⟨W4, hr, e4, hl4, hk4, _⟩ := fin (some (.exit id)) W3 hk3
      exact ⟨_, _, hr, .inr ⟨rfl, .exit id, by rw [e4]; exact hIx _ _ _ _ hi3 (put _ _), hl4, hk4⟩⟩
    | goto t =>
      obtain ⟨hk3, hi3⟩ := hp
      obtain ⟨W4, hr, e4, hl4, hk4, _⟩ := fin (some (.goto t)) W3 hk3
      exact ⟨_, _, hr, .inr ⟨rfl, .goto t, by rw [e4]; exact hIx _ _ _ _ hi3 (put _ _), hl4, hk4⟩⟩
    | panic ch => exact hp.elim
    | outgrown => exact hp.elim
  · rintro e W2 ⟨⟨v, rfl⟩, (⟨_, hi, hl, hk⟩ | ⟨pre, hSp, c, hi, hl, hk⟩)⟩
    · exact ⟨none, _, by have := run_endLoop (P := P) hl (by rw [hrec]; simp); rw [hrec] at this; exact this, hdone _ _ rfl (hI _ _ _ hi (put _ _)) ((World.putObj_heap_other (by omega)).trans hk)⟩
    · exact ⟨some c, _, by have := run_endLoop (P := P) hl (by rw [hrec]; simp); rw [hrec] at this; exact this, hstop _ c pre _ rfl hSp (hIx c _ _ _ hi (put _ _)) ((World.putObj_heap_other (by omega)).trans hk)⟩
end Go.Proofs.YtleeklcpbflfhaaGreatDoor
namespace Go.Proofs.YtleeklcpbflfhaaGreatDoor
open Go.RowKit Go.Shelf
attribute [local go_sem] Oper.semAt_some

theorem tw_split (c : UInt8) : ∀ l : List UInt8, c ∈ l → l = l.take (l.takeWhile (· != c)).length ++ c :: l.drop ((l.takeWhile (· != c)).length + 1) ∧ c ∉ l.take (l.takeWhile (· != c)).length
  | [], h => by cases h
  | b :: l, h => by
    by_cases e : b = c
    · subst e; simp
    · have h1 : c ∈ l := by rcases List.mem_cons.1 h with h | h; exact absurd h.symm e; exact h
      have i := tw_split c l h1
      have e1 : (b :: l).takeWhile (· != c) = b :: l.takeWhile (· != c) := by rw [List.takeWhile_cons, if_pos (by simpa using e)]
      rw [e1]
      refine ⟨by simpa using i.1, ?_⟩
      rw [List.length_cons, List.take_succ_cons, List.mem_cons, not_or]
      exact ⟨fun h => e h.symm, i.2⟩
theorem cutB_in {c : UInt8} {l : List UInt8} (h : c ∈ l) : Rm.cutB c l = l.take (l.takeWhile (· != c)).length :: Rm.cutB c (l.drop ((l.takeWhile (· != c)).length + 1)) := by
  obtain ⟨h1, h2⟩ := tw_split c l h
  have := Rm.cutB_app (l := l.drop ((l.takeWhile (· != c)).length + 1)) h2
  rwa [← h1] at this
theorem tw_lt (c : UInt8) : ∀ l : List UInt8, c ∈ l → (l.takeWhile (· != c)).length < l.length
  | [], h => by cases h
  | b :: l, h => by
    by_cases e : b = c
    · subst e; simp
    · have h1 : c ∈ l := by rcases List.mem_cons.1 h with h | h; exact absurd h.symm e; exact h
      have i := tw_lt c l h1
      have e1 : (b :: l).takeWhile (· != c) = b :: l.takeWhile (· != c) := by rw [List.takeWhile_cons, if_pos (by simpa using e)]
      rw [e1]
      simpa using i
/- how long the text in a cell is -/
def szAt (b : Nat) (w : World) : Nat := match w.cell? ⟨b, 0, none⟩ with
  | some (.string s) => s.size
  | _ => 0
theorem szAt_of {b : Nat} {w : World} {s : ByteArray} (h : w.cell? ⟨b, 0, none⟩ = some (.string s)) : szAt b w = s.size := by unfold szAt; rw [h]
theorem sindex_any (s : ByteArray) (c : UInt8) (w : World) : Calls Tryz.prog 129 #[.string s, .string ⟨#[c]⟩] w fun e w' => e = .returned (.int .i64 (Lib.indexByte s.data.toList c)) ∧ w' = w := Tryz.strings_Index_one s c w
set_option maxRecDepth 100000 in
set_option maxHeartbeats 4000000 in
theorem split_seq (s : ByteArray) (c : UInt8) (bs bp bv : Nat) (w : World) (hs : s.size ≤ 140737488355328) (h1 : w.cell? ⟨bs, 0, none⟩ = some (.string s)) (hf : w.frozen? ⟨bs, 0, none⟩ = false)
    (h2 : w.cell? ⟨bp, 0, none⟩ = some (.string ⟨#[c]⟩)) (h3 : w.cell? ⟨bv, 0, none⟩ = some (.int .i64 0)) (d1 : bp ≠ bs) (d2 : bv ≠ bs) :
    SeqB 2 Tryz.prog 127 #[.pointer (some ⟨bp, 0, none⟩), .pointer (some ⟨bs, 0, none⟩), .pointer (some ⟨bv, 0, none⟩)] (fun x : List UInt8 => #[.string ⟨x.toArray⟩]) (fun k => k ≠ bs) (fun k => k = bs ∨ k = bp ∨ k = bv) (Rm.cutB c s.data.toList) w := by
  intro l J Jx W hg hJ hJx hY h0
  have hbs := World.block_lt_of_cell? _ _ h1
  have hbp := World.block_lt_of_cell? _ _ h2
  have hbv := World.block_lt_of_cell? _ _ h3
  replace h1 := hg.keeps hbs h1
  replace h2 := hg.keeps hbp h2
  replace h3 := hg.keeps hbv h3
  have hf1 : W.frozen? ⟨bs, 0, none⟩ = false := by rw [hg.frozen hbs]; exact hf
  have hbs := World.block_lt_of_cell? _ _ h1
  clear hf hbp hbv hg
  have hn : (1 : Nat) ≤ 2 := by omega
  refine callsIn_of_wp Tryz.func127 rfl trivial ?_ rfl
  simp only [Tryz.ntmps127, List.size_toArray, List.length_cons, List.length_nil, Nat.reduceAdd, Nat.reduceSub, Array.replicate_succ, Array.replicate_zero, List.push_toArray, List.append_toArray, List.nil_append, List.cons_append]
  gi_wp2
  gi_loopw [7] (fun _ wr => ∃ (pre : List (List UInt8)) (S : ByteArray), wr.cell? ⟨bs, 0, none⟩ = some (.string S) ∧ Hid (Rm.cutB c s.data.toList = pre ++ Rm.cutB c S.data.toList) ∧ Hid (J pre wr) ∧ wr.cell? ⟨bp, 0, none⟩ = some (.string ⟨#[c]⟩) ∧ wr.cell? ⟨bv, 0, none⟩ = some (.int .i64 0) ∧ wr.frozen? ⟨bs, 0, none⟩ = false ∧ S.size ≤ 140737488355328)
    (fun _ wr => szAt bs wr)
  case atStart => exact ⟨[], s, h1, Lib.hid (by simp), Lib.hid h0, h2, h3, hf1, hs⟩
  case round =>
    obtain ⟨pre, S, c1, hcut, hj, c2, c3, c4, hsz⟩ := hrel
    have cI := fun w => sindex_any S c w
    have hsl := Lib.size_eq S
    by_cases hc : c ∈ S.data.toList
    · have hidx := Fd.idx_in c _ hc
      have hkl := tw_lt c _ hc
      have hcin := cutB_in hc
      obtain ⟨k, hk⟩ : ∃ k, (S.data.toList.takeWhile (· != c)).length = k := ⟨_, rfl⟩
      rw [hk] at hidx hkl hcin
      have hks : k < S.size := by omega
      have hpre : pre ++ [S.data.toList.take k] <+: Rm.cutB c s.data.toList := by rw [hcut.out, hcin]; exact ⟨Rm.cutB c (S.data.toList.drop (k + 1)), by simp⟩
      obtain ⟨fn, tmps, assign, body, hy, hR⟩ := hY pre (S.data.toList.take k) wr hj.out hpre
      have hE := extract_to S k
      rw [← hE] at hy
      have X2 := Lib.hid (extract_from S (k + 1))
      have HC := Lib.hid hcin
      have HP := Lib.hid hpre
      have HI := Lib.hid hidx
      have HJ := Lib.hid (And.intro hJ hJx)
      clear hE hcin hpre hk hkl hc hsl hidx hY hj h0 h1 h2 h3 hf1 hJ hJx
      gi_wp2_with (refine ⟨trivial, ?_⟩; gi_at_call 129; refine (callsIn_wide.2 (cI _)).mono ?_; rintro e w' ⟨rfl, rfl⟩; rw [HI.out])
      refine hR.mono ?_
      rintro e W3 (⟨rfl, hj3, hk3⟩ | ⟨rfl, hx3⟩)
      · have b1 := hk3.cell (.inl rfl) c1
        have b2 := hk3.cell (.inr (.inl rfl)) c2
        have b3 := hk3.cell (.inr (.inr rfl)) c3
        have b4 : W3.frozen? ⟨bs, 0, none⟩ = false := (hk3.frozen (World.block_lt_of_cell? _ _ c1) (.inl rfl)).trans c4
        gi_wp2
        go_roundw
        case rel =>
          have hez : (S.extract (k + 1) S.size).size = S.size - (k + 1) := by rw [ByteArray.size_extract]; omega
          refine ⟨pre ++ [S.data.toList.take k], S.extract (k + 1) S.size, ?_, ?_, ?_, ?_, ?_, ?_, ?_⟩
          · exact World.cell?_setCell_same _ _ _ b1
          · exact Lib.hid (by rw [hcut.out, HC.out, X2.out, List.append_assoc]; rfl)
          · exact Lib.hid (HJ.out.1 _ _ _ hj3 (Sm.setCell _ _ _ _ (fun h => h rfl)))
          · rw [World.cell?_setCell_other (h := fun e => d1 (congrArg Addr.block e).symm)]; exact b2
          · rw [World.cell?_setCell_other (h := fun e => d2 (congrArg Addr.block e).symm)]; exact b3
          · rw [World.frozen?_setCell]; exact b4
          · omega
        case measure =>
          have hez : (S.extract (k + 1) S.size).size = S.size - (k + 1) := by rw [ByteArray.size_extract]; omega
          rw [szAt_of (World.cell?_setCell_same _ _ _ b1), szAt_of c1]
          omega
      · gi_wp2
        refine bodyPost_ret (results_none rfl _ _ _) rfl ?_
        exact ⟨⟨_, rfl⟩, .inr ⟨_, HP.out, hx3⟩⟩
    · have hidx := Fd.idx_out c _ hc
      have hcin := Rm.cutB_one hc
      have hpre : pre ++ [S.data.toList] <+: Rm.cutB c s.data.toList := by rw [hcut.out, hcin]; exact ⟨[], by simp⟩
      obtain ⟨fn, tmps, assign, body, hy, hR⟩ := hY pre S.data.toList wr hj.out hpre
      rw [mk_data] at hy
      have HC := Lib.hid hcin
      have HP := Lib.hid hpre
      have HI := Lib.hid hidx
      clear hcin hpre hc hsl hidx hY hj h0 h1 h2 h3 hf1 hJ hJx
      gi_wp2_with (refine ⟨trivial, ?_⟩; gi_at_call 129; refine (callsIn_wide.2 (cI _)).mono ?_; rintro e w' ⟨rfl, rfl⟩; rw [HI.out])
      refine hR.mono ?_
      rintro e W3 (⟨rfl, hj3, hk3⟩ | ⟨rfl, hx3⟩)
      · gi_wp2
        go_end0
        refine ⟨⟨_, rfl⟩, .inl ?_⟩
        rw [hcut.out, HC.out]
        exact hj3
      · gi_wp2
        go_end0
        exact ⟨⟨_, rfl⟩, .inr ⟨_, HP.out, hx3⟩⟩
end Go.Proofs.YtleeklcpbflfhaaGreatDoor
namespace Go.Proofs.YtleeklcpbflfhaaGreatDoor
open Go.RowKit Go.Shelf
attribute [local go_sem] Oper.semAt_some

/- three boxes of one cell, just made -/
theorem boxes3 (w : World) (a b c : Value) (ta tb tc : TypeId) :
    ∀ W, W = ((w.alloc (.cells #[a] ta)).alloc (.cells #[b] tb)).alloc (.cells #[c] tc) → W.heap.size = w.heap.size + 3 ∧ Gr w W ∧ W.cell? ⟨w.heap.size, 0, none⟩ = some a ∧ W.cell? ⟨w.heap.size + 1, 0, none⟩ = some b ∧ W.cell? ⟨w.heap.size + 1 + 1, 0, none⟩ = some c ∧
      W.frozen? ⟨w.heap.size, 0, none⟩ = false ∧ W.frozen? ⟨w.heap.size + 1, 0, none⟩ = false ∧ W.frozen? ⟨w.heap.size + 1 + 1, 0, none⟩ = false := by
  rintro W rfl
  have e1 : (w.alloc (.cells #[a] ta)).heap.size = w.heap.size + 1 := by simp
  have e2 : ((w.alloc (.cells #[a] ta)).alloc (.cells #[b] tb)).heap.size = w.heap.size + 1 + 1 := by simp
  have cn : ∀ (w : World) (c : Value) (t : TypeId), (w.alloc (.cells #[c] t)).cell? ⟨w.heap.size, 0, none⟩ = some c := fun w c t => by simp
  have n1 : (w.alloc (.cells #[a] ta)).cell? ⟨w.heap.size, 0, none⟩ = some a := cn _ _ _
  have n2 : ((w.alloc (.cells #[a] ta)).alloc (.cells #[b] tb)).cell? ⟨w.heap.size + 1, 0, none⟩ = some b := by rw [← e1]; exact cn _ _ _
  have n3 : (((w.alloc (.cells #[a] ta)).alloc (.cells #[b] tb)).alloc (.cells #[c] tc)).cell? ⟨w.heap.size + 1 + 1, 0, none⟩ = some c := by rw [← e2]; exact cn _ _ _
  have g2 : Gr (w.alloc (.cells #[a] ta)) ((w.alloc (.cells #[a] ta)).alloc (.cells #[b] tb)) := (Gr.refl _).allocO _
  have g3 : Gr ((w.alloc (.cells #[a] ta)).alloc (.cells #[b] tb)) (((w.alloc (.cells #[a] ta)).alloc (.cells #[b] tb)).alloc (.cells #[c] tc)) := (Gr.refl _).allocO _
  have m1 : (w.alloc (.cells #[a] ta)).frozen? ⟨w.heap.size, 0, none⟩ = false := box_free (Gr.refl _) 0
  have m2 : ((w.alloc (.cells #[a] ta)).alloc (.cells #[b] tb)).frozen? ⟨w.heap.size + 1, 0, none⟩ = false := by rw [← e1]; exact box_free (Gr.refl _) 0
  have m3 : (((w.alloc (.cells #[a] ta)).alloc (.cells #[b] tb)).alloc (.cells #[c] tc)).frozen? ⟨w.heap.size + 1 + 1, 0, none⟩ = false := by rw [← e2]; exact box_free (Gr.refl _) 0
  refine ⟨by simp, (((Gr.refl w).allocO _).allocO _).allocO _, (g2.trans g3).keeps (by simp) n1, g3.keeps (by simp) n2, n3, ?_, ?_, m3⟩
  · rw [(g2.trans g3).frozen (by simp)]; exact m1
  · rw [g3.frozen (by simp)]; exact m2
theorem splitSeq_any (s : ByteArray) (c : UInt8) (w : World) :
    Calls Tryz.prog 66 #[.string s, .string ⟨#[c]⟩] w fun e w' =>
      e = .returned (.func (.func 127) #[] #[.pointer (some ⟨w.heap.size + 1, 0, none⟩), .pointer (some ⟨w.heap.size, 0, none⟩), .pointer (some ⟨w.heap.size + 2, 0, none⟩)]) ∧
      Gr w w' ∧ w'.heap.size = w.heap.size + 3 ∧ w'.cell? ⟨w.heap.size, 0, none⟩ = some (.string s) ∧ w'.cell? ⟨w.heap.size + 1, 0, none⟩ = some (.string ⟨#[c]⟩) ∧ w'.cell? ⟨w.heap.size + 2, 0, none⟩ = some (.int .i64 0) ∧ w'.frozen? ⟨w.heap.size, 0, none⟩ = false := by
  have key : ∀ w, Calls Tryz.prog 96 #[.string s, .string ⟨#[c]⟩, .int .i64 0] w fun e w' =>
      e = .returned (.func (.func 127) #[] #[.pointer (some ⟨w.heap.size + 1, 0, none⟩), .pointer (some ⟨w.heap.size, 0, none⟩), .pointer (some ⟨w.heap.size + 2, 0, none⟩)]) ∧
      w' = ((w.alloc (.cells #[.string s] 9)).alloc (.cells #[.string ⟨#[c]⟩] 9)).alloc (.cells #[.int .i64 0] 3) := by
    intro w
    go_enter Tryz.func96, Tryz.ntmps96
    go_wp2
    go_ret
    exact ⟨by simp, rfl⟩
  go_enter Tryz.func66, Tryz.ntmps66
  go_wp2_with fail
  refine (key _).mono ?_
  rintro e w' ⟨rfl, rfl⟩
  go_wp2
  go_ret
  obtain ⟨h1, h2, h3, h4, h5, h6, _⟩ := boxes3 w (.string s) (.string ⟨#[c]⟩) (.int .i64 0) 9 9 3 _ rfl
  exact ⟨rfl, h2, h1, h3, h4, h5, h6⟩
theorem Own2.sm {w w' : World} {B : Nat} {e : TypeId} {A : Option Addr} {n c : Nat} {xs : List Value} {K : Nat → Prop} (h : Own2 w B e A n c xs) (hs : Sm K w w') (hK : ∀ k, B ≤ k → K k) : Own2 w' B e A n c xs := by
  refine ⟨h.1, ?_⟩
  rcases h.2 with hn | ⟨g, cap, cur, hv, hb, hh, rest⟩
  · exact .inl hn
  · exact .inr ⟨g, cap, cur, hv, hb, hs.obj (hK g hb) hh, rest⟩
/- a function with two results in cells that leaves behind a range over a function -/
theorem load_var1 {t : TypeId} {a : Addr} {v : Value} {w : World} (ha : (isAgg t).run Tryz.prog w = .ok false w) (hc : w.cell? a = some v) : (loadVar t a).run Tryz.prog w = .ok v w := by
  simp [loadVar, ha, go_sem, hc]
theorem results_cells2 {fn : Func} {p q : Tmp} {t u : TypeId} (h : fn.results = #[.cell p t, .cell q u]) (tmps : Array Value) (w : World) {a b : Addr} {x y : Value} (hp : tmps.getD p undef = .pointer (some a)) (hq : tmps.getD q undef = .pointer (some b))
    (hx : (loadVar t a).run Tryz.prog w = .ok x w) (hy : (loadVar u b).run Tryz.prog w = .ok y w) : (results fn tmps).run Tryz.prog w = .ok (.tuple #[x, y]) w := by
  have hp' : tmps[p]?.getD undef = .pointer (some a) := by simpa using hp
  have hq' : tmps[q]?.getD undef = .pointer (some b) := by simpa using hq
  simp [results, h, hp', hq', asAddr, hx, hy]
theorem leave_mark {fn : Func} {n : Nat} {R : Ending → World → Prop} {a : Act} {W : World} {D : Nat} {v : Value} (hd : a.defers = [{ target := .collected D, args := #[] }]) (hK : W.heap[D]? = some (.deferred (some [])))
    (hr : (results fn a.tmps).run Tryz.prog (W.putObj D (.deferred none)) = .ok v (W.putObj D (.deferred none))) (hR : R (.returned v) (W.putObj D (.deferred none))) : bodyPostM Fence.wide n Tryz.prog fn R .ret a W := by
  show LeavesInM Fence.wide n Tryz.prog fn a.tmps R a.defers .returning W
  rw [hd]
  refine ⟨by simp, .inl ⟨_, _, rfl, run_takeDeferred hK, ?_⟩⟩
  exact ⟨_, hr, hR⟩
theorem putObj_cell {W : World} {D : Nat} {o : Obj} {a : Addr} {v : Value} (hK : W.heap[D]? = some (.deferred (some []))) (hc : W.cell? a = some v) : (W.putObj D o).cell? a = some v := by
  by_cases e : a.block = D
  · unfold World.cell? at hc
    rw [e, hK] at hc
    cases hc
  · exact (Sm.putObj (fun k => k ≠ D) W o (by simp)).cell e hc
theorem keepz {W W1 : World} (hg : Gr W W1) {b : Nat} {v : Value} (c : W.cell? ⟨b, 0, none⟩ = some v) (f : W.frozen? ⟨b, 0, none⟩ = false) : W1.cell? ⟨b, 0, none⟩ = some v ∧ W1.frozen? ⟨b, 0, none⟩ = false :=
  have hb := World.block_lt_of_cell? _ _ c
  ⟨hg.keeps hb c, (hg.frozen (a := ⟨b, 0, none⟩) hb).trans f⟩
theorem end2 {W : World} {b : Nat} {u x y : Value} (c : W.cell? ⟨b, 0, none⟩ = some u) : ((W.setCell ⟨b, 0, none⟩ x).setCell ⟨b + 1, 0, none⟩ y).cell? ⟨b, 0, none⟩ = some x := by
  rw [World.cell?_setCell_other (h := by simp)]; exact World.cell?_setCell_same _ _ _ c
theorem end3 {W : World} {b : Nat} {u x y : Value} (c : W.cell? ⟨b + 1, 0, none⟩ = some u) : ((W.setCell ⟨b, 0, none⟩ x).setCell ⟨b + 1, 0, none⟩ y).cell? ⟨b + 1, 0, none⟩ = some y := by
  refine World.cell?_setCell_same _ _ _ (u := u) ?_
  rw [World.cell?_setCell_other (h := by simp)]; exact c
/- append(parts, part{..}) in a round -/
theorem apIn2 {F : Fence} {m : Nat} {ops : Array Oper} {rest : List Oper} {o : Oper} {a : Act} {Q : Exit → Act → World → Prop} (w : World) (hgd : o.guard = none) (sl x : Operand)
    (ho : o.op = .call { callee := .builtin .append, args := #[sl, x], argTypes := #[60, 60] })
    (B : Nat) (A : Option Addr) (n c : Nat) (xs : List Value) (hs : a.eval sl = .slice A n c) (hown : Own2 w B 65 A n c xs) (u v : ByteArray) (hx : a.eval x = .slice (some ⟨w.heap.size, 0, none⟩) 1 1)
    (hlen : n + 1 ≤ 1000000) (hB : B ≤ w.heap.size)
    (h : ∀ A' c' w', Own2 w' B 65 A' (n + 1) c' (xs ++ [.string u, .string v]) → Below B w w' → wpListIn F m Tryz.prog ops Q rest (a.put o.dst (.slice A' (n + 1) c')) w') :
    wpListIn F m Tryz.prog ops Q (o :: rest) a (w.alloc (.cells #[.string u, .string v] 65)) := by
  obtain ⟨i0, hi, hz0, hz1, hz2⟩ := info_parts info_part
  have hown2 : (w.alloc (.cells #[.string u, .string v] 65)).ownsRow B 65 2 (.slice A n c) n xs := World.ownsRow.alloc hown _
  have hsz : (w.alloc (.cells #[.string u, .string v] 65)).heap.size = w.heap.size + 1 := by simp
  refine wpListIn_append_own _ hgd sl x 60 ho B 65 i0 _ 2 32 Tryz.underlying60 hi hz0 hz1 hz2 rfl (by omega) _ n xs hs hown2 ⟨w.heap.size, 0, none⟩ 1 1 [.string u, .string v] hx rfl ?_ (by simp [Value.oneCell']) (by unfold maxLen; omega) (by omega) (by omega) ?_
  · intro j y hy
    have hadd : (⟨w.heap.size, 0, none⟩ : Addr).add j = ⟨w.heap.size, j, none⟩ := by unfold Addr.add; split <;> simp_all
    rw [hadd, cell_of_row _ w.heap.size j #[.string u, .string v] 65 (0, 0) (heap_alloc_new w _)]
    simpa using hy
  · intro v' w' g1 g2 _
    obtain ⟨A', c', rfl⟩ := own_formK g1
    exact h A' c' w' g1 (((Below.refl B w).alloc hB _).trans (below_of_own hown2 (by omega) g2))
namespace Rm
theorem cutB_len (c : UInt8) : ∀ l : List UInt8, (cutB c l).length ≤ l.length + 1 ∧ ∀ x ∈ cutB c l, x.length ≤ l.length
  | [] => by simp [cutB]
  | b :: l => by
    obtain ⟨h1, h2⟩ := cutB_len c l
    unfold cutB
    split
    · refine ⟨by simpa using h1, fun x hx => ?_⟩
      rcases List.mem_cons.1 hx with rfl | hx
      · simp
      · have := h2 x hx
        simp; omega
    · split
      · rename_i hn
        exact absurd hn (cutB_ne c l)
      · rename_i h t e
        rw [e] at h1 h2
        refine ⟨by simp at h1 ⊢; omega, fun x hx => ?_⟩
        rcases List.mem_cons.1 hx with rfl | hx
        · have := h2 h (by simp)
          simpa using this
        · have := h2 x (by simp [hx])
          simp; omega
theorem stepC_len : ∀ (l : List (List UInt8)) (ps qs : List (List UInt8 × List UInt8)), l.foldl stepC (some ps) = some qs → qs.length = ps.length + l.length
  | [], ps, qs, h => by cases h; simp
  | t :: l, ps, qs, h => by
    rw [List.foldl_cons] at h
    cases e : stepC (some ps) t with
    | none => rw [e, stepC_none] at h; cases h
    | some rs =>
      rw [e] at h
      obtain ⟨p, _, _, _, rfl⟩ := stepC_some e
      have := stepC_len l _ _ h
      simp at this ⊢
      omega
end Rm
set_option maxRecDepth 100000 in
set_option maxHeartbeats 8000000 in
theorem cutParts_any (s : ByteArray) (w : World) (hT : TbR w) (hs : s.size ≤ 100000) :
    Calls Tryz.prog 34 #[.string s] w fun e w' => ∃ A n c q ps, e = .returned (.tuple #[.slice A n c, .bool q]) ∧ Gr w w' ∧ Pr2 sv1 sv2 w' w'.heap.size A n ps ∧
      ((Rm.cps s.data.toList = none ∧ q = false) ∨ (Rm.cps s.data.toList = some ps ∧ q = Rm.hasF ps)) := by
  have cS := fun w => splitSeq_any s 59 w
  refine (callsIn_wide (n := 3)).1 ?_
  refine callsIn_of_wp_marks Tryz.func34 rfl trivial ?_ rfl
  refine wpIn_wide.2 ?_
  simp only [Tryz.ntmps34, List.size_toArray, List.length_cons, List.length_nil, Nat.reduceAdd, Nat.reduceSub, Array.replicate_succ, Array.replicate_zero, List.push_toArray, List.append_toArray, List.nil_append, List.cons_append]
  go_wp2_with fail
  refine (cS _).mono ?_
  rintro e W0 ⟨rfl, hg0, hz0, k0, k1, k2, k3⟩
  go_wp2
  obtain ⟨z1, hgB, y2, y3, y4, u2, u3, u4⟩ := boxes3 w (.slice none 0 0) (.bool false) (.slice none 0 0) 60 4 60 _ rfl
  have hz : W0.heap.size = w.heap.size + 1 + 1 + 1 + 3 := by rw [hz0, z1]
  have hbase : Below w.heap.size w W0 := (hgB.trans hg0).below
  have x2 := hg0.keeps (by omega) y2
  have x3 := hg0.keeps (by omega) y3
  have x4 := hg0.keeps (by omega) y4
  have f2 := (hg0.frozen (a := ⟨w.heap.size, 0, none⟩) (by dsimp only; omega)).trans u2
  have f3 := (hg0.frozen (a := ⟨w.heap.size + 1, 0, none⟩) (by dsimp only; omega)).trans u3
  have f4 := (hg0.frozen (a := ⟨w.heap.size + 1 + 1, 0, none⟩) (by dsimp only; omega)).trans u4
  rw [z1] at k0 k1 k2 k3
  have hseq := split_seq s 59 (w.heap.size + 1 + 1 + 1) (w.heap.size + 1 + 1 + 1 + 1) (w.heap.size + 1 + 1 + 1 + 2) W0 (by omega) k0 k3 k1 k2 (by omega) (by omega)
  have hlen := Rm.cutB_len 59 s.data.toList
  rw [← Lib.size_eq] at hlen
  clear k0 k1 k2 k3 y2 y3 y4 u2 u3 u4 z1 hgB hz0 hg0 cS
  refine (wpIn_wide (n := 3)).1 ?_
  refine rangeB (n := 3) rfl (enters_of Tryz.func127 (by kernel_rfl) rfl) (fun _ => rfl) (Kb := fun k => k < W0.heap.size + 2 ∧ k ≠ w.heap.size ∧ k ≠ w.heap.size + 1 ∧ k ≠ w.heap.size + 1 + 1) hseq
    (by omega) (by omega) (by omega) (by omega) (by omega)
    (fun pre W => ∃ A n c ps, W.cell? ⟨w.heap.size + 1 + 1, 0, none⟩ = some (.slice A n c) ∧ Own2 W (W0.heap.size + 2) 65 A n c (cel2 sv1 sv2 ps) ∧ Hid (pre.foldl Rm.stepC (some []) = some ps) ∧
      W.cell? ⟨w.heap.size, 0, none⟩ = some (.slice none 0 0) ∧ W.cell? ⟨w.heap.size + 1, 0, none⟩ = some (.bool false) ∧ W.frozen? ⟨w.heap.size, 0, none⟩ = false ∧ W.frozen? ⟨w.heap.size + 1, 0, none⟩ = false ∧ W.frozen? ⟨w.heap.size + 1 + 1, 0, none⟩ = false ∧ Below w.heap.size w W)
    (fun c pre W => c = .ret ∧ Hid (pre.foldl Rm.stepC (some []) = none) ∧ W.cell? ⟨w.heap.size, 0, none⟩ = some (.slice none 0 0) ∧ W.cell? ⟨w.heap.size + 1, 0, none⟩ = some (.bool false) ∧ Below w.heap.size w W)
    ?hI ?hIx ⟨none, 0, 0, [], x4, Own2.nil _ _ _, Lib.hid rfl, x2, x3, f2, f3, f4, hbase⟩
    (fun x => { tmps := #[.string s, undef, .pointer (some ⟨w.heap.size, 0, none⟩), .pointer (some ⟨w.heap.size + 1, 0, none⟩), .pointer (some ⟨w.heap.size + 1 + 1, 0, none⟩), .string ⟨x.toArray⟩, undef, undef, undef, .string s,
      .func (.func 127) #[] #[.pointer (some ⟨w.heap.size + 1 + 1 + 1 + 1, 0, none⟩), .pointer (some ⟨w.heap.size + 1 + 1 + 1, 0, none⟩), .pointer (some ⟨w.heap.size + 1 + 1 + 1 + 2, 0, none⟩)],
      .string ⟨x.toArray⟩, undef, undef, undef, undef, undef, undef, undef, undef, undef, undef, undef, undef, undef, undef, undef, undef, undef, undef, undef, undef, undef, undef, undef, undef, undef, undef, undef], defers := [] }) ?assign ?body ?done ?stop
  case hI =>
    rintro pre W W' ⟨A, n, c, ps, c4, ho, hf, c2, c3, g2, g3, g4, hb⟩ hs
    have b2 := World.block_lt_of_cell? _ _ c2
    have b3 := World.block_lt_of_cell? _ _ c3
    have b4 := World.block_lt_of_cell? _ _ c4
    refine ⟨A, n, c, ps, hs.cell ?_ c4, ho.sm hs (fun k hk => ?_), hf, hs.cell ?_ c2, hs.cell ?_ c3, (hs.frozen b2 ?_).trans g2, (hs.frozen b3 ?_).trans g3, (hs.frozen b4 ?_).trans g4, hb.trans (hs.below (fun k hk => ?_) hb.size)⟩
    all_goals (first | omega | (dsimp only; omega))
  case hIx =>
    rintro c pre W W' ⟨rfl, hf, c2, c3, hb⟩ hs
    refine ⟨rfl, hf, hs.cell ?_ c2, hs.cell ?_ c3, hb.trans (hs.below (fun k hk => ?_) hb.size)⟩
    all_goals (first | omega | (dsimp only; omega))
  case assign =>
    intro l x W K hK
    gi_wp2
    exact hK
  case body =>
    rintro l pre x W hzW ⟨A, n, c, ps, c4, ho, hf, c2, c3, g2, g3, g4, hb⟩ hpre
    have hxl : x.length ≤ s.size := hlen.2 x (by obtain ⟨r, hr⟩ := hpre; rw [← hr]; simp)
    have hpl : pre.length ≤ s.size := by
      obtain ⟨r, hr⟩ := hpre
      have := hlen.1
      rw [← hr] at this
      simp at this; omega
    have hXs := size_mk x
    have cC := fun w => cut_any ⟨x.toArray⟩ w (by rw [hXs]; omega)
    rw [show (ByteArray.mk x.toArray).data.toList = x from rfl] at cC
    have hps : ps.length = pre.length := by have := Rm.stepC_len _ _ _ hf.out; simpa using this
    have hn : n = ps.length := by have h1 := ho.1; rw [cel2_len] at h1; omega
    have hTW : TbR W := hT.gr ⟨hb⟩
    have hstep : (pre ++ [x]).foldl Rm.stepC (some []) = Rm.stepC (some ps) x := by rw [List.foldl_append, hf.out]; rfl
    have HX := Lib.hid (And.intro hps hstep)
    have HL := Lib.hid (And.intro hpl (And.intro hn hlen))
    clear hps hstep hpl hn hXs hlen hpre hf hseq x2 x3 x4 f2 f3 f4 hT
    cases hsp : Rm.splitEq x with
    | none =>
      have hE : Rm.cutE x = (x, [], false) := by unfold Rm.cutE; rw [hsp]
      rw [hE] at cC
      have HN := Lib.hid (show Rm.stepC (some ps) x = none by unfold Rm.stepC; rw [Option.bind_some, hsp]; rfl)
      clear hsp hE
      dsimp only at cC
      generalize (ByteArray.mk x.toArray) = X at *
      gi_wp2_with (refine ⟨trivial, ?_⟩; gi_at_call 67; refine (CallsIn.inRound l (callsIn_wide.2 (cC _))).mono ?_; rintro e w1 ⟨rfl, hg1⟩; obtain ⟨d2, e2⟩ := keepz hg1 c2 g2; obtain ⟨d3, e3⟩ := keepz hg1 c3 g3)
      refine ⟨trivial, ?_⟩
      gi_wp2
      refine ⟨trivial, ?_⟩
      gi_wp2
      exact ⟨(hg1.sm _).trans ((Sm.setCell _ _ _ _ (fun h => h.2.1 rfl)).trans (Sm.setCell _ _ _ _ (fun h => h.2.2.1 rfl))), rfl, Lib.hid (by rw [HX.out.2, HN.out]), end2 d2, end3 d3, ((hb.trans (hg1.low hb.size)).setCell (p := ⟨w.heap.size, 0, none⟩) (Nat.le_refl _) _).setCell (p := ⟨w.heap.size + 1, 0, none⟩) (Nat.le_succ _) _⟩
    | some p =>
      obtain ⟨nm, vl⟩ := p
      have hE : Rm.cutE x = (nm, vl, true) := by unfold Rm.cutE; rw [hsp]
      rw [hE] at cC
      have HS := Lib.hid hsp
      clear hsp hE
      dsimp only at cC
      have cK := fun w1 (h : TbR w1) q hq => known_any ⟨nm.toArray⟩ w1 h q hq
      have cH := fun w1 (h : Pr2 sv1 sv2 w1 w1.heap.size A n ps) => has_any ⟨nm.toArray⟩ A n c ps w1 h (by have := HX.out.1; have := HL.out.1; have := HL.out.2.1; omega)
      rw [show (ByteArray.mk nm.toArray).data.toList = nm from rfl] at cK cH
      generalize hNM : (ByteArray.mk nm.toArray) = NM at *
      generalize hVL : (ByteArray.mk vl.toArray) = VL at *
      have HV := Lib.hid (And.intro hNM hVL)
      clear hNM hVL
      generalize hXX : (ByteArray.mk x.toArray) = X at *
      clear hXX
      by_cases hk : nm ∈ Rm.names
      · have cK := fun w1 h => cK w1 h true ⟨fun _ => hk, fun _ => rfl⟩
        by_cases hh : nm ∈ ps.map Prod.fst
        · have hb1 : (ps.map Prod.fst).contains nm = true := by simpa using hh
          rw [hb1] at cH
          have HN := Lib.hid (show Rm.stepC (some ps) x = none by unfold Rm.stepC; rw [Option.bind_some, HS.out, Option.bind_some, if_neg (fun h => h.2 hh)])
          clear hh hb1 hk
          gi_wp2_with (first
            | (refine ⟨trivial, ?_⟩; gi_at_call 67; refine (CallsIn.inRound l (callsIn_wide.2 (cC _))).mono ?_; rintro e w1 ⟨rfl, hg1⟩; obtain ⟨d2, e2⟩ := keepz hg1 c2 g2; obtain ⟨d3, e3⟩ := keepz hg1 c3 g3; obtain ⟨d4, e4⟩ := keepz hg1 c4 g4; have ho1 := ho.gr hg1; have hT1 := hTW.gr hg1)
            | (refine ⟨trivial, ?_⟩; gi_at_call 68; refine (CallsIn.inRound l (callsIn_wide.2 (cK _ hT1))).mono ?_; rintro e w' ⟨rfl, rfl⟩)
            | (refine ⟨trivial, ?_⟩; gi_at_call 69; refine (CallsIn.inRound l (callsIn_wide.2 (cH _ ho1.pr))).mono ?_; rintro e w2 ⟨rfl, hg2⟩; obtain ⟨d2, e2⟩ := keepz hg2 d2 e2; obtain ⟨d3, e3⟩ := keepz hg2 d3 e3))
          exact ⟨((hg1.trans hg2).sm _).trans ((Sm.setCell _ _ _ _ (fun h => h.2.1 rfl)).trans (Sm.setCell _ _ _ _ (fun h => h.2.2.1 rfl))), rfl, Lib.hid (by rw [HX.out.2, HN.out]), end2 d2, end3 d3, ((hb.trans ((hg1.trans hg2).low hb.size)).setCell (p := ⟨w.heap.size, 0, none⟩) (Nat.le_refl _) _).setCell (p := ⟨w.heap.size + 1, 0, none⟩) (Nat.le_succ _) _⟩
        · have hb1 : (ps.map Prod.fst).contains nm = false := by simpa using hh
          rw [hb1] at cH
          have HN := Lib.hid (show Rm.stepC (some ps) x = some (ps ++ [(nm, vl)]) by unfold Rm.stepC; rw [Option.bind_some, HS.out, Option.bind_some, if_pos ⟨hk, hh⟩])
          clear hh hb1 hk
          gi_wp2_with (first
            | (refine ⟨trivial, ?_⟩; gi_at_call 67; refine (CallsIn.inRound l (callsIn_wide.2 (cC _))).mono ?_; rintro e w1 ⟨rfl, hg1⟩; obtain ⟨d2, e2⟩ := keepz hg1 c2 g2; obtain ⟨d3, e3⟩ := keepz hg1 c3 g3; obtain ⟨d4, e4⟩ := keepz hg1 c4 g4; have ho1 := ho.gr hg1; have hT1 := hTW.gr hg1)
            | (refine ⟨trivial, ?_⟩; gi_at_call 68; refine (CallsIn.inRound l (callsIn_wide.2 (cK _ hT1))).mono ?_; rintro e w' ⟨rfl, rfl⟩)
            | (refine ⟨trivial, ?_⟩; gi_at_call 69; refine (CallsIn.inRound l (callsIn_wide.2 (cH _ ho1.pr))).mono ?_; rintro e w2 ⟨rfl, hg2⟩; obtain ⟨d2, e2⟩ := keepz hg2 d2 e2; obtain ⟨d3, e3⟩ := keepz hg2 d3 e3; obtain ⟨d4, e4⟩ := keepz hg2 d4 e4; have ho2 := ho1.gr hg2; have hB2 : W0.heap.size + 2 ≤ w2.heap.size := Nat.le_trans hzW (hg1.trans hg2).lt)
            | (gi_at_builtin; refine apIn2 w2 rfl (.tmp 30) (.tmp 34) rfl (W0.heap.size + 2) A n c _ rfl ho2 NM VL rfl (by have := HX.out.1; have := HL.out.1; have := HL.out.2.1; omega) hB2 ?_; intro A' c' w3 ho3 hb3; have k4 := hb3.cell (p := ⟨w.heap.size + 1 + 1, 0, none⟩) (by dsimp only; omega); rw [d4] at k4; have j4 := hb3.frozen (p := ⟨w.heap.size + 1 + 1, 0, none⟩) (by dsimp only; omega); rw [e4] at j4))
          have hB3 := hb3.size
          have q2 := (hb3.cell (p := ⟨w.heap.size, 0, none⟩) (by dsimp only; omega)).trans d2
          have q3 := (hb3.cell (p := ⟨w.heap.size + 1, 0, none⟩) (by dsimp only; omega)).trans d3
          have r2 := (hb3.frozen (p := ⟨w.heap.size, 0, none⟩) (by dsimp only; omega)).trans e2
          have r3 := (hb3.frozen (p := ⟨w.heap.size + 1, 0, none⟩) (by dsimp only; omega)).trans e3
          refine ⟨((hg1.trans hg2).sm _).trans ((Below.sm hb3 (fun k hk => hk.1)).trans (Sm.setCell _ _ _ _ (fun h => h.2.2.2 rfl))), A', _, c', ps ++ [(nm, vl)], World.cell?_setCell_same _ _ _ k4, ?_, Lib.hid (by rw [HX.out.2, HN.out]), ?_, ?_, ?_, ?_, ?_, ?_⟩
          · have ho4 : Own2 w3 (W0.heap.size + 2) 65 A' (n + 1) c' (cel2 sv1 sv2 (ps ++ [(nm, vl)])) := by
              rw [cel2_app]
              have e9 : cel2 sv1 sv2 [(nm, vl)] = [.string NM, .string VL] := by rw [← HV.out.1, ← HV.out.2]; rfl
              rw [e9]
              exact ho3
            exact ho4.sm (Sm.setCell (fun k => W0.heap.size + 2 ≤ k) _ _ _ (by dsimp only; omega)) (fun k hk => hk)
          · rw [World.cell?_setCell_other (h := by simp)]; exact q2
          · rw [World.cell?_setCell_other (h := by simp)]; exact q3
          · rw [World.frozen?_setCell]; exact r2
          · rw [World.frozen?_setCell]; exact r3
          · rw [World.frozen?_setCell]; exact j4
          · exact ((hb.trans ((hg1.trans hg2).low hb.size)).trans (hb3.mono (by omega))).setCell (p := ⟨w.heap.size + 1 + 1, 0, none⟩) (by dsimp only; omega) _
      · have cK := fun w1 h => cK w1 h false ⟨fun h => (by cases h), fun h => absurd h hk⟩
        have HN := Lib.hid (show Rm.stepC (some ps) x = none by unfold Rm.stepC; rw [Option.bind_some, HS.out, Option.bind_some, if_neg (fun h => hk h.1)])
        clear hk
        gi_wp2_with (first
          | (refine ⟨trivial, ?_⟩; gi_at_call 67; refine (CallsIn.inRound l (callsIn_wide.2 (cC _))).mono ?_; rintro e w1 ⟨rfl, hg1⟩; obtain ⟨d2, e2⟩ := keepz hg1 c2 g2; obtain ⟨d3, e3⟩ := keepz hg1 c3 g3; have hT1 := hTW.gr hg1)
          | (refine ⟨trivial, ?_⟩; gi_at_call 68; refine (CallsIn.inRound l (callsIn_wide.2 (cK _ hT1))).mono ?_; rintro e w' ⟨rfl, rfl⟩))
        refine ⟨trivial, ?_⟩
        gi_wp2
        exact ⟨(hg1.sm _).trans ((Sm.setCell _ _ _ _ (fun h => h.2.1 rfl)).trans (Sm.setCell _ _ _ _ (fun h => h.2.2.1 rfl))), rfl, Lib.hid (by rw [HX.out.2, HN.out]), end2 d2, end3 d3, ((hb.trans (hg1.low hb.size)).setCell (p := ⟨w.heap.size, 0, none⟩) (Nat.le_refl _) _).setCell (p := ⟨w.heap.size + 1, 0, none⟩) (Nat.le_succ _) _⟩
  case done =>
    rintro D W hD ⟨A, n, c, ps, c4, ho, hf, c2, c3, g2, g3, g4, hb⟩ hK
    have hps : ps.length = (Rm.cutB 59 s.data.toList).length := by have := Rm.stepC_len _ _ _ hf.out; simpa using this
    have hn : n = ps.length := by have h1 := ho.1; rw [cel2_len] at h1; omega
    have hDW := (Array.getElem?_eq_some_iff.1 hK).1
    have hlt := hb.size
    have HD := Lib.hid hD
    clear hD
    have HL := Lib.hid (And.intro hps hn)
    have cH := fun w1 (h : Pr2 sv1 sv2 w1 w1.heap.size A n ps) => has_any ⟨#[70, 82, 69, 81]⟩ A n c ps w1 h (by have := HL.out.1; have := HL.out.2; have := hlen.1; omega)
    have b2 := World.block_lt_of_cell? _ _ c2
    have b3 := World.block_lt_of_cell? _ _ c3
    have b4 := World.block_lt_of_cell? _ _ c4
    obtain ⟨q, hq⟩ : ∃ q, (ps.map Prod.fst).contains (ByteArray.mk #[70, 82, 69, 81]).data.toList = q := ⟨_, rfl⟩
    rw [hq] at cH
    have HQ := Lib.hid (show Rm.hasF ps = q from hq)
    have HP := ho.pr
    clear hps hn hq hlen x2 x3 x4 f2 f3 f4 hseq hT
    go_wp2
    go_region_with (go_at_call 69; refine (cH _ (by exact HP)).mono ?_; rintro e w2 ⟨rfl, hg2⟩; obtain ⟨d2, e2⟩ := keepz hg2 (by exact c2) (by exact g2); obtain ⟨d3, e3⟩ := keepz hg2 (by exact c3) (by exact g3); obtain ⟨d4, e4⟩ := keepz hg2 (by exact c4) (by exact g4); have hK2 := (hg2.below.block D (by simpa using hDW)).trans (by exact hK))
    all_goals go_wp2
    all_goals
      have hz2 : W.heap.size ≤ w2.heap.size := hg2.lt
      have hD := HD.out
      have hgW : Gr W w2 := ((Gr.refl W).drew).trans hg2
      have ho2 : Own2 w2 (W0.heap.size + 2) 65 A n c (cel2 sv1 sv2 ps) := Own2.gr (w := W.drew) (by exact ho) hg2
      have ho3 := (ho2.sm (Sm.setCell (fun k => W0.heap.size + 2 ≤ k) w2 ⟨w.heap.size, 0, none⟩ (.slice A n c) (by dsimp only; omega)) (fun k hk => hk)).sm (Sm.setCell (fun k => W0.heap.size + 2 ≤ k) _ ⟨w.heap.size + 1, 0, none⟩ (.bool q) (by dsimp only; omega)) (fun k hk => hk)
      have hK3 : ((w2.setCell ⟨w.heap.size, 0, none⟩ (.slice A n c)).setCell ⟨w.heap.size + 1, 0, none⟩ (.bool q)).heap[D]? = some (.deferred (some [])) := by
        rw [Below.heap_setCell _ _ _ _ (by dsimp only; omega), Below.heap_setCell _ _ _ _ (by dsimp only; omega)]; exact hK2
      have hb2 : Below w.heap.size w w2 := hb.trans (hgW.low hb.size)
      have hb3 := (hb2.setCell (p := ⟨w.heap.size, 0, none⟩) (Nat.le_refl _) (.slice A n c)).setCell (p := ⟨w.heap.size + 1, 0, none⟩) (Nat.le_succ _) (.bool q)
      refine leave_mark rfl hK3 (results_cells2 rfl _ _ rfl rfl (load_var1 (Tryz.isAgg60 _) (putObj_cell hK3 (end2 d2))) (load_var1 (Tryz.isAgg4 _) (putObj_cell hK3 (end3 d3)))) ?_
      exact ⟨A, n, c, q, ps, rfl, ⟨hb3.trans ((Sm.putObj (fun k => k < w.heap.size) _ _ (by omega)).below (fun k hk => hk) hb3.size)⟩, (ho3.sm (Sm.putObj (fun k => W0.heap.size + 2 ≤ k) _ _ (by omega)) (fun k hk => hk)).pr, .inr ⟨hf.out, HQ.out.symm⟩⟩
  case stop =>
    rintro D c pre W hD hpre ⟨rfl, hf, c2, c3, hb⟩ hK
    refine wpIn_wide.2 ?_
    go_wp2
    refine leave_mark rfl hK (results_cells2 rfl _ _ rfl rfl (load_var1 (Tryz.isAgg60 _) (putObj_cell hK c2)) (load_var1 (Tryz.isAgg4 _) (putObj_cell hK c3))) ?_
    have hlt := hb.size
    have hDW := (Array.getElem?_eq_some_iff.1 hK).1
    refine ⟨none, 0, 0, false, [], rfl, ⟨hb.trans ((Sm.putObj (fun k => k < w.heap.size) W _ (by omega)).below (fun k hk => hk) hlt)⟩, Pr2.nil _ _ _, .inl ⟨?_, rfl⟩⟩
    obtain ⟨r, hr⟩ := hpre
    unfold Rm.cps
    rw [← hr, List.foldl_append, hf.out, Rm.stepC_none]
end Go.Proofs.YtleeklcpbflfhaaGreatDoor
