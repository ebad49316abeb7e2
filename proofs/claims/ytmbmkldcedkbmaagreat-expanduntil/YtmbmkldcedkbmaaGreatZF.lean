/- The texts Rf, RcSplit, RcCut, one behind the other. -/
import Derived.Test.YtmbmkldcedkbmaaGreatZA
import Derived.RangeFuncNested
import Derived.RangeFuncBound
import Derived.RangeFuncCalls
import Derived.RangeFuncLeaves
import Derived.Test.YtmbmkldcedkbmaaGreatZE
import Derived.Test.YtmbmkldcedkbmaaGreatZShelf3
import Derived.Shelf.Abstract
import Derived.Shelf.RegionOpen
import Derived.OwnWalkIn
import Derived.TacticsInMore
import Derived.LoopNIn
import Derived.LoopIn
import Derived.Laws.ResultCell
namespace Go.Proofs.YtmbmkldcedkbmaaGreat
open Go.RowKit

/- the blocks in K lie as they lay -/
structure Sm (K : Nat → Prop) (W W' : World) : Prop where
  os : W'.os = W.os
  tape : W'.tape = W.tape
  output : W'.output = W.output
  size : W.heap.size ≤ W'.heap.size
  same : ∀ k, k < W.heap.size → K k → W'.heap[k]? = W.heap[k]?
theorem Sm.refl (K : Nat → Prop) (W : World) : Sm K W W := ⟨rfl, rfl, rfl, Nat.le_refl _, fun _ _ _ => rfl⟩
theorem Sm.trans {K : Nat → Prop} {a b c : World} (h : Sm K a b) (k : Sm K b c) : Sm K a c :=
  ⟨k.os.trans h.os, k.tape.trans h.tape, k.output.trans h.output, Nat.le_trans h.size k.size, fun i hi hk => (k.same i (Nat.lt_of_lt_of_le hi h.size) hk).trans (h.same i hi hk)⟩
theorem Sm.weak {K K' : Nat → Prop} {W W' : World} (h : Sm K W W') (hk : ∀ k, K' k → K k) : Sm K' W W' := ⟨h.os, h.tape, h.output, h.size, fun i hi hK => h.same i hi (hk i hK)⟩
theorem Gr.sm {W W' : World} (h : Gr W W') (K : Nat → Prop) : Sm K W W' := ⟨h.below.os, h.below.tape, h.below.output, h.below.size, fun i hi _ => h.below.block i hi⟩
theorem Below.sm {B : Nat} {W W' : World} (h : Below B W W') {K : Nat → Prop} (hK : ∀ k, K k → k < B) : Sm K W W' := ⟨h.os, h.tape, h.output, h.size, fun i _ hk => h.block i (hK i hk)⟩
theorem Sm.below {K : Nat → Prop} {B : Nat} {W W' : World} (h : Sm K W W') (hB : ∀ k, k < B → K k) (hs : B ≤ W.heap.size) : Below B W W' := ⟨h.os, h.tape, h.output, h.size, fun i hi => h.same i (by omega) (hB i hi)⟩
theorem Sm.putObj (K : Nat → Prop) (W : World) {l : Nat} (o : Obj) (hl : ¬ K l) : Sm K W (W.putObj l o) :=
  ⟨rfl, rfl, rfl, by simp, fun k _ hk => World.putObj_heap_other (fun e => hl (e ▸ hk))⟩
theorem Sm.setCell (K : Nat → Prop) (W : World) (a : Addr) (v : Value) (h : ¬ K a.block) : Sm K W (W.setCell a v) :=
  ⟨rfl, rfl, rfl, by simp [World.setCell], fun k _ hk => Below.heap_setCell W a v k (fun e => h (e ▸ hk))⟩
theorem Sm.alloc (K : Nat → Prop) (W : World) (o : Obj) : Sm K W (W.alloc o) := ⟨rfl, rfl, rfl, by simp, fun k hk _ => Below.heap_alloc W o k hk⟩
theorem Sm.cell {K : Nat → Prop} {W W' : World} (h : Sm K W W') {a : Addr} {v : Value} (hk : K a.block) (hc : W.cell? a = some v) : W'.cell? a = some v := by
  have hb := World.block_lt_of_cell? _ _ hc
  unfold World.cell? at hc ⊢
  rw [h.same _ hb hk]; exact hc
theorem Sm.frozen {K : Nat → Prop} {W W' : World} (h : Sm K W W') {a : Addr} (hb : a.block < W.heap.size) (hk : K a.block) : W'.frozen? a = W.frozen? a := by
  unfold World.frozen?; rw [h.same _ hb hk]
theorem Sm.obj {K : Nat → Prop} {W W' : World} (h : Sm K W W') {k : Nat} {o : Obj} (hk : K k) (ho : W.heap[k]? = some o) : W'.heap[k]? = some o :=
  (h.same k (Array.getElem?_eq_some_iff.1 ho).1 hk).trans ho

/- the iterator's contract: what it gives is xs, in this order; it turns no block in Kj and asks that a round turn none in Kr -/
def SeqB {α : Type} (m : Nat) (P : Program) (gf : Nat) (lb : Array Value) (encs : α → Array Value) (Kj Kr : Nat → Prop) (xs : List α) (w : World) : Prop :=
  ∀ (l : Nat) (J Jx : List α → World → Prop) (W : World), Gr w W → (∀ s A B, J s A → Sm Kj A B → J s B) → (∀ s A B, Jx s A → Sm Kj A B → Jx s B) →
    (∀ pre x W1, J pre W1 → pre ++ [x] <+: xs → YieldAt Fence.wide (m - 1) P l (encs x) W1 fun e W' =>
      (e = .returned (.bool true) ∧ J (pre ++ [x]) W' ∧ Sm Kr W1 W') ∨ (e = .returned (.bool false) ∧ Jx (pre ++ [x]) W')) →
    J [] W →
    CallsIn Fence.wide m P gf (#[.func (.yield l) #[] #[]] ++ lb) W fun e W' => (∃ v, e = .returned v) ∧ (J xs W' ∨ ∃ pre, pre <+: xs ∧ Jx pre W')

/- how a round may be left -/
def bdPost {α : Type} (Kb : Nat → Prop) (I : List α → World → Prop) (Ix : Code → List α → World → Prop) (xs : List α) (W : World) : Exit → Act → World → Prop
  | .normal, _, W' => Sm Kb W W' ∧ I xs W'
  | .ret, _, W' => Sm Kb W W' ∧ Ix .ret xs W'
  | .exit id, _, W' => Sm Kb W W' ∧ Ix (.exit id) xs W'
  | .goto t, _, W' => Sm Kb W W' ∧ Ix (.goto t) xs W'
  | .panic _, _, _ => False
  | .outgrown, _, _ => False

theorem rangeB {α : Type} {P : Program} {n : Nat} {g : Operand} {ps : Array Tmp} {assign body : Code} {Q : Exit → Act → World → Prop} {a : Act} {w : World}
    {gf : Nat} {lb : Array Value} (hg : a.eval g = .func (.func gf) #[] lb) (eg : ∀ args w, (callFunc gf args).run P w = .ok (.enter gf args) w)
    {encs : α → Array Value} (hps : ∀ x, (encs x).size = ps.size) {Kj Kr Kb : Nat → Prop} {xs : List α} (hseq : SeqB (n - 1) P gf lb encs Kj Kr xs w)
    (hjD : Kj w.heap.size) (hjL : Kj (w.heap.size + 1)) (hbD : Kb w.heap.size) (hbL : Kb (w.heap.size + 1)) (hrb : ∀ k, Kr k → Kb k ∧ k ≠ w.heap.size + 1)
    (I : List α → World → Prop) (Ix : Code → List α → World → Prop) (hI : ∀ s A B, I s A → Sm (fun k => Kj k ∧ k ≠ w.heap.size ∧ k ≠ w.heap.size + 1) A B → I s B)
    (hIx : ∀ c s A B, Ix c s A → Sm (fun k => Kj k ∧ k ≠ w.heap.size ∧ k ≠ w.heap.size + 1) A B → Ix c s B) (h0 : I [] w) (a₁ : α → Act)
    (hassign : ∀ (l : Nat) (x : α) (W : World) (K : Act → World → Prop), K (a₁ x) W →
      assign.wpIn (Fence.wide.inRound l) (n - 1 - 1) P (Exit.then K (fun _ _ _ => False)) { tmps := (ps.zip (encs x)).foldl (fun t (p, v) => t.setIfInBounds p v) a.tmps, defers := [] } W)
    (hbody : ∀ (l : Nat) (pre : List α) (x : α) (W : World), w.heap.size + 2 ≤ W.heap.size → I pre W → pre ++ [x] <+: xs → body.wpIn (Fence.wide.inRound l) (n - 1 - 1) P (bdPost Kb I Ix (pre ++ [x]) W) (a₁ x) W)
    (hdone : ∀ (D : Nat) (W : World), D = w.heap.size → I xs W → W.heap[D]? = some (.deferred (some [])) → Q .normal { a with defers := { target := .collected D, args := #[] } :: a.defers } W)
    (hstop : ∀ (D : Nat) (c : Code) (pre : List α) (W : World), D = w.heap.size → pre <+: xs → Ix c pre W → W.heap[D]? = some (.deferred (some [])) → c.wpIn Fence.wide n P Q { a with defers := { target := .collected D, args := #[] } :: a.defers } W) :
    (Code.rangeFunc g ps assign body).wpIn Fence.wide n P Q a w := by
  have hwd : ∀ {p : Prop}, Fence.wide.depth.isSome = true → p := fun h => by simp [Fence.wide] at h
  refine wpIn_rangeFunc ?_
  intro fn hfn
  obtain ⟨rec, hrec⟩ : ∃ rec : LoopState → Option Code → Loop, rec = fun st pe => { state := st, pending := pe, fn, tmps := a.tmps, params := ps, assign, body, defers := w.heap.size } := ⟨_, rfl⟩
  obtain ⟨W1, hW1⟩ : ∃ W1, (w.alloc (.deferred (some []))).alloc (.loop (rec .ready none)) = W1 := ⟨_, rfl⟩
  have hg1 : Gr w W1 := by rw [← hW1]; exact ⟨((Below.refl _ w).alloc (Nat.le_refl _) _).alloc (by simp) _⟩
  have hs1 : W1.heap.size = w.heap.size + 2 := by rw [← hW1]; simp
  have hL1 : W1.heap[w.heap.size + 1]? = some (.loop (rec .ready none)) := by
    rw [← hW1]; have := World.alloc_heap_new (w.alloc (.deferred (some []))) (.loop (rec .ready none)); rwa [World.size_alloc] at this
  have hK1 : W1.heap[w.heap.size]? = some (.deferred (some [])) := by
    rw [← hW1]; exact (Below.heap_alloc _ _ _ (by simp)).trans (World.alloc_heap_new w _)
  have hI1 : I [] W1 := hI _ _ _ h0 (hg1.sm _)
  refine ⟨w.heap.size + 1, [{ target := .collected w.heap.size, args := #[] }], W1, { target := .fn (.func gf) lb, args := #[.func (.yield (w.heap.size + 1)) #[] #[]] }, W1, gf,
    #[.func (.yield (w.heap.size + 1)) #[] #[]] ++ lb, W1, ?_, ?_, ?_, ?_, hwd, ?_⟩
  · rw [← hW1, hrec]; exact run_enterLoop_outer _ _ _ _ _
  · simp only [resolve, hg]
    simp [go_sem]
  · intro f' _; trivial
  · simp [invoke, go_sem, eg]
  have put : ∀ (W : World) (o : Obj), Sm (fun k => Kj k ∧ k ≠ w.heap.size ∧ k ≠ w.heap.size + 1) W (W.putObj (w.heap.size + 1) o) := fun W o => Sm.putObj _ W o (fun h => h.2.2 rfl)
  have toI : ∀ {A B : World}, Sm Kj A B → Sm (fun k => Kj k ∧ k ≠ w.heap.size ∧ k ≠ w.heap.size + 1) A B := fun h => h.weak (fun k hk => hk.1)
  refine (hseq (w.heap.size + 1)
    (fun pre W => w.heap.size + 2 ≤ W.heap.size ∧ I pre W ∧ W.heap[w.heap.size + 1]? = some (.loop (rec .ready none)) ∧ W.heap[w.heap.size]? = some (.deferred (some [])))
    (fun pre W => ∃ c, Ix c pre W ∧ W.heap[w.heap.size + 1]? = some (.loop (rec .done (some c))) ∧ W.heap[w.heap.size]? = some (.deferred (some [])))
    W1 hg1
    (fun s A B ⟨hz, hi, hl, hk⟩ hs => ⟨Nat.le_trans hz hs.size, hI s A B hi (toI hs), hs.obj hjL hl, hs.obj hjD hk⟩)
    (fun s A B ⟨c, hi, hl, hk⟩ hs => ⟨c, hIx c s A B hi (toI hs), hs.obj hjL hl, hs.obj hjD hk⟩)
    ?_ ⟨by omega, hI1, hL1, hK1⟩).mono ?_
  · rintro pre x W ⟨hz, hi, hl, hk⟩ hpre
    have hy := run_yield (P := P) (args := encs x) hl (by rw [hrec]; exact hps x)
    rw [hrec] at hy
    refine ⟨fn, _, assign, body, hy, roundIn_of_wpIn hfn (hassign _ x W _ ⟨_, run_beginRound hl (by rw [hrec]), ?_⟩)⟩
    obtain ⟨W2, hW2⟩ : ∃ W2, W.putObj (w.heap.size + 1) (.loop { rec .ready none with state := .busy }) = W2 := ⟨_, rfl⟩
    have hl2 : W2.heap[w.heap.size + 1]? = some (.loop { rec .ready none with state := .busy }) := by rw [← hW2]; exact World.putObj_heap_same (by omega)
    have hk2 : W2.heap[w.heap.size]? = some (.deferred (some [])) := by rw [← hW2]; exact (World.putObj_heap_other (by omega)).trans hk
    have hi2 : I pre W2 := by rw [← hW2]; exact hI _ _ _ hi (put _ _)
    have hz2 : w.heap.size + 2 ≤ W2.heap.size := by rw [← hW2]; simpa using hz
    have hr2 : Sm Kr W W2 := by rw [← hW2]; exact Sm.putObj _ _ _ (fun h => (hrb _ h).2 rfl)
    rw [hW2]
    refine wpIn_mono (hbody _ pre x W2 hz2 hi2 hpre) ?_
    have fin : ∀ (jump : Option Code) (W3 : World), Sm Kb W2 W3 →
        ∃ W4, (Instr.endRound (w.heap.size + 1) jump).run P W3 = .ok (.bool jump.isNone) W4 ∧ W4 = W3.putObj (w.heap.size + 1) (.loop (rec (if jump.isNone then .ready else .done) jump)) ∧
          W4.heap[w.heap.size + 1]? = some (.loop (rec (if jump.isNone then .ready else .done) jump)) ∧ W4.heap[w.heap.size]? = some (.deferred (some [])) ∧ w.heap.size + 2 ≤ W4.heap.size := fun jump W3 hk3 => by
      have hl3 := hk3.obj hbL hl2
      have hz3 := Nat.le_trans hz2 hk3.size
      have := run_endRound (P := P) jump hl3
      rw [hrec] at this ⊢
      exact ⟨_, this, rfl, World.putObj_heap_same (by omega), (World.putObj_heap_other (by omega)).trans (hk3.obj hbD hk2), by simpa using hz3⟩
    rintro e a3 W3 hp
    cases e with
    | normal =>
      obtain ⟨hk3, hi3⟩ := hp
      obtain ⟨W4, hr, e4, hl4, hk4, hz4⟩ := fin none W3 hk3
      refine ⟨_, _, hr, .inl ⟨rfl, ⟨hz4, by rw [e4]; exact hI _ _ _ hi3 (put _ _), hl4, hk4⟩, ?_⟩⟩
      rw [e4]
      exact hr2.trans ((hk3.weak (fun k hk => (hrb k hk).1)).trans (Sm.putObj _ _ _ (fun h => (hrb _ h).2 rfl)))
    | ret =>
      obtain ⟨hk3, hi3⟩ := hp
      obtain ⟨W4, hr, e4, hl4, hk4, _⟩ := fin (some .ret) W3 hk3
      exact ⟨_, _, hr, .inr ⟨rfl, .ret, by rw [e4]; exact hIx _ _ _ _ hi3 (put _ _), hl4, hk4⟩⟩
    | exit id =>
      obtain ⟨hk3, hi3⟩ := hp
      obtain ⟨W4, hr, e4, hl4, hk4, _⟩ := fin (some (.exit id)) W3 hk3
      exact ⟨_, _, hr, .inr ⟨rfl, .exit id, by rw [e4]; exact hIx _ _ _ _ hi3 (put _ _), hl4, hk4⟩⟩
    | goto t =>
      obtain ⟨hk3, hi3⟩ := hp
      obtain ⟨W4, hr, e4, hl4, hk4, _⟩ := fin (some (.goto t)) W3 hk3
      exact ⟨_, _, hr, .inr ⟨rfl, .goto t, by rw [e4]; exact hIx _ _ _ _ hi3 (put _ _), hl4, hk4⟩⟩
    | panic ch => exact hp.elim
    | outgrown => exact hp.elim
  · rintro e W2 ⟨⟨v, rfl⟩, (⟨_, hi, hl, hk⟩ | ⟨pre, hSp, c, hi, hl, hk⟩)⟩
    · exact ⟨none, _, by have := run_endLoop (P := P) hl (by rw [hrec]; simp); rw [hrec] at this; exact this, hdone _ _ rfl (hI _ _ _ hi (put _ _)) ((World.putObj_heap_other (by omega)).trans hk)⟩
    · exact ⟨some c, _, by have := run_endLoop (P := P) hl (by rw [hrec]; simp); rw [hrec] at this; exact this, hstop _ c pre _ rfl hSp (hIx c _ _ _ hi (put _ _)) ((World.putObj_heap_other (by omega)).trans hk)⟩
end Go.Proofs.YtmbmkldcedkbmaaGreat
namespace Go.Proofs.YtmbmkldcedkbmaaGreat
open Go.RowKit Go.Shelf
attribute [local go_sem] Oper.semAt_some

theorem tw_split (c : UInt8) : ∀ l : List UInt8, c ∈ l → l = l.take (l.takeWhile (· != c)).length ++ c :: l.drop ((l.takeWhile (· != c)).length + 1) ∧ c ∉ l.take (l.takeWhile (· != c)).length
  | [], h => by cases h
  | b :: l, h => by
    by_cases e : b = c
    · subst e; simp
    · have h1 : c ∈ l := by rcases List.mem_cons.1 h with h | h; exact absurd h.symm e; exact h
      have i := tw_split c l h1
      have e1 : (b :: l).takeWhile (· != c) = b :: l.takeWhile (· != c) := by rw [List.takeWhile_cons, if_pos (by simpa using e)]
      rw [e1]
      refine ⟨by simpa using i.1, ?_⟩
      rw [List.length_cons, List.take_succ_cons, List.mem_cons, not_or]
      exact ⟨fun h => e h.symm, i.2⟩
theorem cutB_in {c : UInt8} {l : List UInt8} (h : c ∈ l) : Rm.cutB c l = l.take (l.takeWhile (· != c)).length :: Rm.cutB c (l.drop ((l.takeWhile (· != c)).length + 1)) := by
  obtain ⟨h1, h2⟩ := tw_split c l h
  have := Rm.cutB_app (l := l.drop ((l.takeWhile (· != c)).length + 1)) h2
  rwa [← h1] at this
theorem tw_lt (c : UInt8) : ∀ l : List UInt8, c ∈ l → (l.takeWhile (· != c)).length < l.length
  | [], h => by cases h
  | b :: l, h => by
    by_cases e : b = c
    · subst e; simp
    · have h1 : c ∈ l := by rcases List.mem_cons.1 h with h | h; exact absurd h.symm e; exact h
      have i := tw_lt c l h1
      have e1 : (b :: l).takeWhile (· != c) = b :: l.takeWhile (· != c) := by rw [List.takeWhile_cons, if_pos (by simpa using e)]
      rw [e1]
      simpa using i
/- how long the text in a cell is -/
def szAt (b : Nat) (w : World) : Nat := match w.cell? ⟨b, 0, none⟩ with
  | some (.string s) => s.size
  | _ => 0
theorem szAt_of {b : Nat} {w : World} {s : ByteArray} (h : w.cell? ⟨b, 0, none⟩ = some (.string s)) : szAt b w = s.size := by unfold szAt; rw [h]
end Go.Proofs.YtmbmkldcedkbmaaGreat
namespace Go.Proofs.YtmbmkldcedkbmaaGreat
open Go.RowKit Go.Shelf
attribute [local go_sem] Oper.semAt_some

/- three boxes of one cell, just made -/
theorem boxes3 (w : World) (a b c : Value) (ta tb tc : TypeId) :
    ∀ W, W = ((w.alloc (.cells #[a] ta)).alloc (.cells #[b] tb)).alloc (.cells #[c] tc) → W.heap.size = w.heap.size + 3 ∧ Gr w W ∧ W.cell? ⟨w.heap.size, 0, none⟩ = some a ∧ W.cell? ⟨w.heap.size + 1, 0, none⟩ = some b ∧ W.cell? ⟨w.heap.size + 1 + 1, 0, none⟩ = some c ∧
      W.frozen? ⟨w.heap.size, 0, none⟩ = false ∧ W.frozen? ⟨w.heap.size + 1, 0, none⟩ = false ∧ W.frozen? ⟨w.heap.size + 1 + 1, 0, none⟩ = false := by
  rintro W rfl
  have e1 : (w.alloc (.cells #[a] ta)).heap.size = w.heap.size + 1 := by simp
  have e2 : ((w.alloc (.cells #[a] ta)).alloc (.cells #[b] tb)).heap.size = w.heap.size + 1 + 1 := by simp
  have cn : ∀ (w : World) (c : Value) (t : TypeId), (w.alloc (.cells #[c] t)).cell? ⟨w.heap.size, 0, none⟩ = some c := fun w c t => by simp
  have n1 : (w.alloc (.cells #[a] ta)).cell? ⟨w.heap.size, 0, none⟩ = some a := cn _ _ _
  have n2 : ((w.alloc (.cells #[a] ta)).alloc (.cells #[b] tb)).cell? ⟨w.heap.size + 1, 0, none⟩ = some b := by rw [← e1]; exact cn _ _ _
  have n3 : (((w.alloc (.cells #[a] ta)).alloc (.cells #[b] tb)).alloc (.cells #[c] tc)).cell? ⟨w.heap.size + 1 + 1, 0, none⟩ = some c := by rw [← e2]; exact cn _ _ _
  have g2 : Gr (w.alloc (.cells #[a] ta)) ((w.alloc (.cells #[a] ta)).alloc (.cells #[b] tb)) := (Gr.refl _).allocO _
  have g3 : Gr ((w.alloc (.cells #[a] ta)).alloc (.cells #[b] tb)) (((w.alloc (.cells #[a] ta)).alloc (.cells #[b] tb)).alloc (.cells #[c] tc)) := (Gr.refl _).allocO _
  have m1 : (w.alloc (.cells #[a] ta)).frozen? ⟨w.heap.size, 0, none⟩ = false := box_free (Gr.refl _) 0
  have m2 : ((w.alloc (.cells #[a] ta)).alloc (.cells #[b] tb)).frozen? ⟨w.heap.size + 1, 0, none⟩ = false := by rw [← e1]; exact box_free (Gr.refl _) 0
  have m3 : (((w.alloc (.cells #[a] ta)).alloc (.cells #[b] tb)).alloc (.cells #[c] tc)).frozen? ⟨w.heap.size + 1 + 1, 0, none⟩ = false := by rw [← e2]; exact box_free (Gr.refl _) 0
  refine ⟨by simp, (((Gr.refl w).allocO _).allocO _).allocO _, (g2.trans g3).keeps (by simp) n1, g3.keeps (by simp) n2, n3, ?_, ?_, m3⟩
  · rw [(g2.trans g3).frozen (by simp)]; exact m1
  · rw [g3.frozen (by simp)]; exact m2
theorem Own2.sm {w w' : World} {B : Nat} {e : TypeId} {A : Option Addr} {n c : Nat} {xs : List Value} {K : Nat → Prop} (h : Own2 w B e A n c xs) (hs : Sm K w w') (hK : ∀ k, B ≤ k → K k) : Own2 w' B e A n c xs := by
  refine ⟨h.1, ?_⟩
  rcases h.2 with hn | ⟨g, cap, cur, hv, hb, hh, rest⟩
  · exact .inl hn
  · exact .inr ⟨g, cap, cur, hv, hb, hs.obj (hK g hb) hh, rest⟩
/- a function with two results in cells that leaves behind a range over a function -/
theorem load_var1 {t : TypeId} {a : Addr} {v : Value} {w : World} (ha : (isAgg t).run Tryz.prog w = .ok false w) (hc : w.cell? a = some v) : (loadVar t a).run Tryz.prog w = .ok v w := by
  simp [loadVar, ha, go_sem, hc]
theorem results_cells2 {fn : Func} {p q : Tmp} {t u : TypeId} (h : fn.results = #[.cell p t, .cell q u]) (tmps : Array Value) (w : World) {a b : Addr} {x y : Value} (hp : tmps.getD p undef = .pointer (some a)) (hq : tmps.getD q undef = .pointer (some b))
    (hx : (loadVar t a).run Tryz.prog w = .ok x w) (hy : (loadVar u b).run Tryz.prog w = .ok y w) : (results fn tmps).run Tryz.prog w = .ok (.tuple #[x, y]) w := by
  have hp' : tmps[p]?.getD undef = .pointer (some a) := by simpa using hp
  have hq' : tmps[q]?.getD undef = .pointer (some b) := by simpa using hq
  simp [results, h, hp', hq', asAddr, hx, hy]
theorem leave_mark {fn : Func} {n : Nat} {R : Ending → World → Prop} {a : Act} {W : World} {D : Nat} {v : Value} (hd : a.defers = [{ target := .collected D, args := #[] }]) (hK : W.heap[D]? = some (.deferred (some [])))
    (hr : (results fn a.tmps).run Tryz.prog (W.putObj D (.deferred none)) = .ok v (W.putObj D (.deferred none))) (hR : R (.returned v) (W.putObj D (.deferred none))) : bodyPostM Fence.wide n Tryz.prog fn R .ret a W := by
  show LeavesInM Fence.wide n Tryz.prog fn a.tmps R a.defers .returning W
  rw [hd]
  refine ⟨by simp, .inl ⟨_, _, rfl, run_takeDeferred hK, ?_⟩⟩
  exact ⟨_, hr, hR⟩
theorem putObj_cell {W : World} {D : Nat} {o : Obj} {a : Addr} {v : Value} (hK : W.heap[D]? = some (.deferred (some []))) (hc : W.cell? a = some v) : (W.putObj D o).cell? a = some v := by
  by_cases e : a.block = D
  · unfold World.cell? at hc
    rw [e, hK] at hc
    cases hc
  · exact (Sm.putObj (fun k => k ≠ D) W o (by simp)).cell e hc
theorem keepz {W W1 : World} (hg : Gr W W1) {b : Nat} {v : Value} (c : W.cell? ⟨b, 0, none⟩ = some v) (f : W.frozen? ⟨b, 0, none⟩ = false) : W1.cell? ⟨b, 0, none⟩ = some v ∧ W1.frozen? ⟨b, 0, none⟩ = false :=
  have hb := World.block_lt_of_cell? _ _ c
  ⟨hg.keeps hb c, (hg.frozen (a := ⟨b, 0, none⟩) hb).trans f⟩
theorem end2 {W : World} {b : Nat} {u x y : Value} (c : W.cell? ⟨b, 0, none⟩ = some u) : ((W.setCell ⟨b, 0, none⟩ x).setCell ⟨b + 1, 0, none⟩ y).cell? ⟨b, 0, none⟩ = some x := by
  rw [World.cell?_setCell_other (h := by simp)]; exact World.cell?_setCell_same _ _ _ c
theorem end3 {W : World} {b : Nat} {u x y : Value} (c : W.cell? ⟨b + 1, 0, none⟩ = some u) : ((W.setCell ⟨b, 0, none⟩ x).setCell ⟨b + 1, 0, none⟩ y).cell? ⟨b + 1, 0, none⟩ = some y := by
  refine World.cell?_setCell_same _ _ _ (u := u) ?_
  rw [World.cell?_setCell_other (h := by simp)]; exact c
/- append(parts, part{..}) in a round -/
namespace Rm
theorem cutB_len (c : UInt8) : ∀ l : List UInt8, (cutB c l).length ≤ l.length + 1 ∧ ∀ x ∈ cutB c l, x.length ≤ l.length
  | [] => by simp [cutB]
  | b :: l => by
    obtain ⟨h1, h2⟩ := cutB_len c l
    unfold cutB
    split
    · refine ⟨by simpa using h1, fun x hx => ?_⟩
      rcases List.mem_cons.1 hx with rfl | hx
      · simp
      · have := h2 x hx
        simp; omega
    · split
      · rename_i hn
        exact absurd hn (cutB_ne c l)
      · rename_i h t e
        rw [e] at h1 h2
        refine ⟨by simp at h1 ⊢; omega, fun x hx => ?_⟩
        rcases List.mem_cons.1 hx with rfl | hx
        · have := h2 h (by simp)
          simpa using this
        · have := h2 x (by simp [hx])
          simp; omega
theorem stepC_len : ∀ (l : List (List UInt8)) (ps qs : List (List UInt8 × List UInt8)), l.foldl stepC (some ps) = some qs → qs.length = ps.length + l.length
  | [], ps, qs, h => by cases h; simp
  | t :: l, ps, qs, h => by
    rw [List.foldl_cons] at h
    cases e : stepC (some ps) t with
    | none => rw [e, stepC_none] at h; cases h
    | some rs =>
      rw [e] at h
      obtain ⟨p, _, _, _, rfl⟩ := stepC_some e
      have := stepC_len l _ _ h
      simp at this ⊢
      omega
end Rm
end Go.Proofs.YtmbmkldcedkbmaaGreat
