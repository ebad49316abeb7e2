/- The texts Xr, Xo, Xi, one behind the other. -/
import Derived.Test.YtmbmkldcedkbmaaGreatZF
import Derived.Test.YtmbmkldcedkbmaaGreatZE
import Derived.BigQuiet
import Derived.OrdersIn
import Derived.TacticsIn
import Derived.OwnWalkIn
import Derived.Deep.AppendLies
import Derived.Test.YtmbmkldcedkbmaaGreatZXA
import Derived.Shelf.Abstract
import Derived.Shelf.RegionOpen
import Derived.TacticsInMore
import Derived.LoopNIn
import Derived.LoopIn
namespace Go.Proofs.YtmbmkldcedkbmaaGreat
open Go.RowKit

/- the iterator's own blocks, with what was made since -/
def Gw (E : Nat → Prop) (a b : World) : Nat → Prop := fun k => E k ∨ (a.heap.size ≤ k ∧ k < b.heap.size)
theorem Gw_same {E : Nat → Prop} {a b : World} (h : b.heap.size = a.heap.size) : Gw E a b = E := by
  funext k
  unfold Gw
  exact propext ⟨fun h1 => h1.elim id (fun h2 => by omega), .inl⟩
theorem Gw_or {E F : Nat → Prop} {a b : World} : Gw (fun k => F k ∨ E k) a b = fun k => F k ∨ Gw E a b k := by
  funext k
  unfold Gw
  exact propext ⟨fun h => h.elim (fun h => h.elim .inl (fun h => .inr (.inl h))) (fun h => .inr (.inr h)), fun h => h.elim (fun h => .inl (.inl h)) (fun h => h.elim (fun h => .inl (.inr h)) .inr)⟩
theorem Gw_trans {E : Nat → Prop} {a b c : World} (h1 : a.heap.size ≤ b.heap.size) (h2 : b.heap.size ≤ c.heap.size) : Gw (Gw E a b) b c = Gw E a c := by
  funext k
  unfold Gw
  exact propext ⟨fun h => h.elim (fun h => h.elim .inl (fun h => .inr (by omega))) (fun h => .inr (by omega)), fun h => by
    rcases h with h | h
    · exact .inl (.inl h)
    · by_cases c : k < b.heap.size
      · exact .inl (.inr (by omega))
      · exact .inr (by omega)⟩
/- what abides the iterator's own doings -/
abbrev Ab {α : Type} (J : (Nat → Prop) → List α → World → Prop) : Prop := ∀ E s A B, J E s A → Sm (fun k => ¬ E k) A B → J (Gw E A B) s B

/- the iterator's contract: what it gives is xs, in this order; it turns no block but those that it made (E); a round must turn none of these, and none in Kr -/
def SeqE {α : Type} (m : Nat) (P : Program) (gf : Nat) (lb : Array Value) (encs : α → Array Value) (Kr : Nat → Prop) (xs : List α) (w : World) : Prop :=
  ∀ (l : Nat) (J Jx : (Nat → Prop) → List α → World → Prop) (W : World), Gr w W → Ab J → Ab Jx →
    (∀ E pre x W1, J E pre W1 → (∀ k, E k → W.heap.size ≤ k ∧ k < W1.heap.size) → pre ++ [x] <+: xs → YieldAt Fence.wide (m - 1) P l (encs x) W1 fun e W' =>
      Sm (fun k => E k ∨ Kr k) W1 W' ∧ ((e = .returned (.bool true) ∧ J E (pre ++ [x]) W') ∨ (e = .returned (.bool false) ∧ Jx E (pre ++ [x]) W'))) →
    J (fun _ => False) [] W →
    CallsIn Fence.wide m P gf (#[.func (.yield l) #[] #[]] ++ lb) W fun e W' => (∃ v, e = .returned v) ∧ ∃ E, (∀ k, E k → W.heap.size ≤ k ∧ k < W'.heap.size) ∧ (J E xs W' ∨ ∃ pre, pre <+: xs ∧ Jx E pre W')

/- how a round may be left -/
def bdPostE {α : Type} (Kb E : Nat → Prop) (I : (Nat → Prop) → List α → World → Prop) (Ix : Code → (Nat → Prop) → List α → World → Prop) (xs : List α) (W : World) : Exit → Act → World → Prop
  | .normal, _, W' => Sm Kb W W' ∧ I E xs W'
  | .ret, _, W' => Sm Kb W W' ∧ Ix .ret E xs W'
  | .exit id, _, W' => Sm Kb W W' ∧ Ix (.exit id) E xs W'
  | .goto t, _, W' => Sm Kb W W' ∧ Ix (.goto t) E xs W'
  | .panic _, _, _ => False
  | .outgrown, _, _ => False

theorem rangeE {α : Type} {P : Program} {n : Nat} {g : Operand} {ps : Array Tmp} {assign body : Code} {Q : Exit → Act → World → Prop} {a : Act} {w : World}
    {gf : Nat} {lb : Array Value} (hg : a.eval g = .func (.func gf) #[] lb) (eg : ∀ args w, (callFunc gf args).run P w = .ok (.enter gf args) w)
    {encs : α → Array Value} (hps : ∀ x, (encs x).size = ps.size) {Kr : Nat → Prop} {xs : List α} (hseq : SeqE (n - 1) P gf lb encs Kr xs w)
    (hrb : ∀ k, Kr k → k < w.heap.size)
    (I : (Nat → Prop) → List α → World → Prop) (Ix : Code → (Nat → Prop) → List α → World → Prop) (hI : Ab I) (hIx : ∀ c, Ab (Ix c)) (h0 : I (fun _ => False) [] w) (a₁ : α → Act)
    (hassign : ∀ (l : Nat) (x : α) (W : World) (K : Act → World → Prop), K (a₁ x) W →
      assign.wpIn (Fence.wide.inRound l) (n - 1 - 1) P (Exit.then K (fun _ _ _ => False)) { tmps := (ps.zip (encs x)).foldl (fun t (p, v) => t.setIfInBounds p v) a.tmps, defers := [] } W)
    (hbody : ∀ (l : Nat) (E : Nat → Prop) (pre : List α) (x : α) (W : World), (∀ k, E k → w.heap.size ≤ k ∧ k < W.heap.size) → w.heap.size + 2 ≤ W.heap.size → I E pre W → pre ++ [x] <+: xs →
      body.wpIn (Fence.wide.inRound l) (n - 1 - 1) P (bdPostE (fun k => E k ∨ Kr k) E I Ix (pre ++ [x]) W) (a₁ x) W)
    (hdone : ∀ (D : Nat) (E : Nat → Prop) (W : World), D = w.heap.size → E D → (∀ k, E k → w.heap.size ≤ k ∧ k < W.heap.size) → I E xs W → W.heap[D]? = some (.deferred (some [])) → Q .normal { a with defers := { target := .collected D, args := #[] } :: a.defers } W)
    (hstop : ∀ (D : Nat) (c : Code) (E : Nat → Prop) (pre : List α) (W : World), D = w.heap.size → E D → (∀ k, E k → w.heap.size ≤ k ∧ k < W.heap.size) → pre <+: xs → Ix c E pre W → W.heap[D]? = some (.deferred (some [])) → c.wpIn Fence.wide n P Q { a with defers := { target := .collected D, args := #[] } :: a.defers } W) :
    (Code.rangeFunc g ps assign body).wpIn Fence.wide n P Q a w := by
  have hwd : ∀ {p : Prop}, Fence.wide.depth.isSome = true → p := fun h => by simp [Fence.wide] at h
  refine wpIn_rangeFunc ?_
  intro fn hfn
  obtain ⟨rec, hrec⟩ : ∃ rec : LoopState → Option Code → Loop, rec = fun st pe => { state := st, pending := pe, fn, tmps := a.tmps, params := ps, assign, body, defers := w.heap.size } := ⟨_, rfl⟩
  obtain ⟨W1, hW1⟩ : ∃ W1, (w.alloc (.deferred (some []))).alloc (.loop (rec .ready none)) = W1 := ⟨_, rfl⟩
  have hg1 : Gr w W1 := by rw [← hW1]; exact ⟨((Below.refl _ w).alloc (Nat.le_refl _) _).alloc (by simp) _⟩
  have hs1 : W1.heap.size = w.heap.size + 2 := by rw [← hW1]; simp
  have hL1 : W1.heap[w.heap.size + 1]? = some (.loop (rec .ready none)) := by
    rw [← hW1]; have := World.alloc_heap_new (w.alloc (.deferred (some []))) (.loop (rec .ready none)); rwa [World.size_alloc] at this
  have hK1 : W1.heap[w.heap.size]? = some (.deferred (some [])) := by
    rw [← hW1]; exact (Below.heap_alloc _ _ _ (by simp)).trans (World.alloc_heap_new w _)
  obtain ⟨E1, hE1⟩ : ∃ E1, Gw (fun _ => False) w W1 = E1 := ⟨_, rfl⟩
  have e1 : ∀ k, E1 k ↔ w.heap.size ≤ k ∧ k < w.heap.size + 2 := fun k => by rw [← hE1]; unfold Gw; rw [hs1]; simp
  have hI1 : I E1 [] W1 := by rw [← hE1]; exact hI _ _ _ _ h0 (hg1.sm _)
  refine ⟨w.heap.size + 1, [{ target := .collected w.heap.size, args := #[] }], W1, { target := .fn (.func gf) lb, args := #[.func (.yield (w.heap.size + 1)) #[] #[]] }, W1, gf,
    #[.func (.yield (w.heap.size + 1)) #[] #[]] ++ lb, W1, ?_, ?_, ?_, ?_, hwd, ?_⟩
  · rw [← hW1, hrec]; exact run_enterLoop_outer _ _ _ _ _
  · simp only [resolve, hg]
    simp [go_sem]
  · intro f' _; trivial
  · simp [invoke, go_sem, eg]
  -- turning the record leaves I as it was, the record being among E1
  have put : ∀ (X : (Nat → Prop) → List α → World → Prop) (hX : Ab X) (E : Nat → Prop) (s : List α) (W : World) (o : Obj), X (fun k => E1 k ∨ E k) s W → X (fun k => E1 k ∨ E k) s (W.putObj (w.heap.size + 1) o) := fun X hX E s W o h => by
    have := hX _ _ _ _ h (Sm.putObj (l := w.heap.size + 1) (fun k => ¬ (E1 k ∨ E k)) W o (fun hn => hn (.inl ((e1 _).2 (by omega)))))
    rwa [Gw_same (by simp)] at this
  have up : ∀ (X : (Nat → Prop) → List α → World → Prop) (hX : Ab X) (E : Nat → Prop) (s : List α) (A B : World), X (fun k => E1 k ∨ E k) s A → Sm (fun k => ¬ E k) A B → X (fun k => E1 k ∨ Gw E A B k) s B := fun X hX E s A B h hs => by
    have := hX _ _ _ _ h (hs.weak (fun k hk he => hk (.inr he)))
    rwa [Gw_or] at this
  have own : ∀ (E : Nat → Prop) (W : World), w.heap.size + 2 ≤ W.heap.size → (∀ k, E k → W1.heap.size ≤ k ∧ k < W.heap.size) → ∀ k, E1 k ∨ E k → w.heap.size ≤ k ∧ k < W.heap.size := fun E W hz hE k hk => by
    rcases hk with hk | hk
    · have := (e1 k).1 hk; omega
    · have := hE k hk; omega
  refine (hseq (w.heap.size + 1)
    (fun E pre W => ((∀ k, E k → W1.heap.size ≤ k) ∧ w.heap.size + 2 ≤ W.heap.size) ∧ I (fun k => E1 k ∨ E k) pre W ∧ W.heap[w.heap.size + 1]? = some (.loop (rec .ready none)) ∧ W.heap[w.heap.size]? = some (.deferred (some [])))
    (fun E pre W => ((∀ k, E k → W1.heap.size ≤ k) ∧ w.heap.size + 2 ≤ W.heap.size) ∧ ∃ c, Ix c (fun k => E1 k ∨ E k) pre W ∧ W.heap[w.heap.size + 1]? = some (.loop (rec .done (some c))) ∧ W.heap[w.heap.size]? = some (.deferred (some [])))
    W1 hg1
    (fun E s A B ⟨⟨he, hz⟩, hi, hl, hk⟩ hs => by
      refine ⟨⟨fun k hk => ?_, Nat.le_trans hz hs.size⟩, up I hI E s A B hi hs, hs.obj (fun h => by have := he _ h; omega) hl, hs.obj (fun h => by have := he _ h; omega) hk⟩
      rcases hk with hk | hk
      · exact he k hk
      · omega)
    (fun E s A B ⟨⟨he, hz⟩, c, hi, hl, hk⟩ hs => by
      refine ⟨⟨fun k hk => ?_, Nat.le_trans hz hs.size⟩, c, up (Ix c) (hIx c) E s A B hi hs, hs.obj (fun h => by have := he _ h; omega) hl, hs.obj (fun h => by have := he _ h; omega) hk⟩
      rcases hk with hk | hk
      · exact he k hk
      · omega)
    ?_ ⟨⟨fun _ h => h.elim, by omega⟩, (congrArg (fun X => I X [] W1) (funext fun k => propext ⟨fun h => h.elim id False.elim, .inl⟩ : (fun k => E1 k ∨ (fun _ => False) k) = E1)).mpr hI1, hL1, hK1⟩).mono ?_
  · rintro E pre x W ⟨⟨he, hz⟩, hi, hl, hk⟩ hE hpre
    have hy := run_yield (P := P) (args := encs x) hl (by rw [hrec]; exact hps x)
    rw [hrec] at hy
    refine ⟨fn, _, assign, body, hy, roundIn_of_wpIn hfn (hassign _ x W _ ⟨_, run_beginRound hl (by rw [hrec]), ?_⟩)⟩
    obtain ⟨W2, hW2⟩ : ∃ W2, W.putObj (w.heap.size + 1) (.loop { rec .ready none with state := .busy }) = W2 := ⟨_, rfl⟩
    have hl2 : W2.heap[w.heap.size + 1]? = some (.loop { rec .ready none with state := .busy }) := by rw [← hW2]; exact World.putObj_heap_same (by omega)
    have hk2 : W2.heap[w.heap.size]? = some (.deferred (some [])) := by rw [← hW2]; exact (World.putObj_heap_other (by omega)).trans hk
    have hi2 : I (fun k => E1 k ∨ E k) pre W2 := by rw [← hW2]; exact put I hI _ _ _ _ hi
    have hz2 : w.heap.size + 2 ≤ W2.heap.size := by rw [← hW2]; simpa using hz
    have hE2 : ∀ k, E k → W1.heap.size ≤ k ∧ k < W2.heap.size := by rw [← hW2]; simpa using hE
    have hr2 : Sm (fun k => E k ∨ Kr k) W W2 := by
      rw [← hW2]
      refine Sm.putObj _ _ _ (fun h => ?_)
      rcases h with h | h
      · have := he _ h; omega
      · have := hrb _ h; omega
    rw [hW2]
    refine wpIn_mono (hbody _ (fun k => E1 k ∨ E k) pre x W2 (own E W2 hz2 hE2) hz2 hi2 hpre) ?_
    have fin : ∀ (jump : Option Code) (W3 : World), Sm (fun k => (E1 k ∨ E k) ∨ Kr k) W2 W3 →
        ∃ W4, (Instr.endRound (w.heap.size + 1) jump).run P W3 = .ok (.bool jump.isNone) W4 ∧ W4 = W3.putObj (w.heap.size + 1) (.loop (rec (if jump.isNone then .ready else .done) jump)) ∧
          W4.heap[w.heap.size + 1]? = some (.loop (rec (if jump.isNone then .ready else .done) jump)) ∧ W4.heap[w.heap.size]? = some (.deferred (some [])) ∧ w.heap.size + 2 ≤ W4.heap.size ∧ Sm (fun k => E k ∨ Kr k) W W4 := fun jump W3 hk3 => by
      have hl3 := hk3.obj (.inl (.inl ((e1 _).2 (by omega)))) hl2
      have hz3 := Nat.le_trans hz2 hk3.size
      have := run_endRound (P := P) jump hl3
      rw [hrec] at this ⊢
      refine ⟨_, this, rfl, World.putObj_heap_same (by omega), (World.putObj_heap_other (by omega)).trans (hk3.obj (.inl (.inl ((e1 _).2 (by omega)))) hk2), by simpa using hz3, ?_⟩
      refine hr2.trans ((hk3.weak (fun k hk => hk.elim (fun h => .inl (.inr h)) .inr)).trans (Sm.putObj _ _ _ (fun h => ?_)))
      rcases h with h | h
      · have := he _ h; omega
      · have := hrb _ h; omega
    rintro e a3 W3 hp
    cases e with
    | normal =>
      obtain ⟨hk3, hi3⟩ := hp
      obtain ⟨W4, hr, e4, hl4, hk4, hz4, hs4⟩ := fin none W3 hk3
      refine ⟨_, _, hr, hs4, .inl ⟨rfl, ⟨he, hz4⟩, by rw [e4]; exact put I hI _ _ _ _ hi3, hl4, hk4⟩⟩
    | ret =>
      obtain ⟨hk3, hi3⟩ := hp
      obtain ⟨W4, hr, e4, hl4, hk4, hz4, hs4⟩ := fin (some .ret) W3 hk3
      exact ⟨_, _, hr, hs4, .inr ⟨rfl, ⟨he, hz4⟩, .ret, by rw [e4]; exact put _ (hIx _) _ _ _ _ hi3, hl4, hk4⟩⟩
    | exit id =>
      obtain ⟨hk3, hi3⟩ := hp
      obtain ⟨W4, hr, e4, hl4, hk4, hz4, hs4⟩ := fin (some (.exit id)) W3 hk3
      exact ⟨_, _, hr, hs4, .inr ⟨rfl, ⟨he, hz4⟩, .exit id, by rw [e4]; exact put _ (hIx _) _ _ _ _ hi3, hl4, hk4⟩⟩
    | goto t =>
      obtain ⟨hk3, hi3⟩ := hp
      obtain ⟨W4, hr, e4, hl4, hk4, hz4, hs4⟩ := fin (some (.goto t)) W3 hk3
      exact ⟨_, _, hr, hs4, .inr ⟨rfl, ⟨he, hz4⟩, .goto t, by rw [e4]; exact put _ (hIx _) _ _ _ _ hi3, hl4, hk4⟩⟩
    | panic ch => exact hp.elim
    | outgrown => exact hp.elim
  · rintro e W2 ⟨⟨v, rfl⟩, E, hE, (⟨⟨he, hz⟩, hi, hl, hk⟩ | ⟨pre, hSp, ⟨he, hz⟩, c, hi, hl, hk⟩)⟩
    · refine ⟨none, _, by have := run_endLoop (P := P) hl (by rw [hrec]; simp); rw [hrec] at this; exact this, hdone _ (fun k => E1 k ∨ E k) _ rfl (.inl ((e1 _).2 (by omega))) ?_ (put I hI _ _ _ _ hi) ((World.putObj_heap_other (by omega)).trans hk)⟩
      simpa using own E W2 hz hE
    · refine ⟨some c, _, by have := run_endLoop (P := P) hl (by rw [hrec]; simp); rw [hrec] at this; exact this, hstop _ c (fun k => E1 k ∨ E k) pre _ rfl (.inl ((e1 _).2 (by omega))) ?_ hSp (put _ (hIx c) _ _ _ _ hi) ((World.putObj_heap_other (by omega)).trans hk)⟩
      simpa using own E W2 hz hE

/- at a fence without a bound on the depth the figures are all one -/
theorem roundIn_deep {m m' : Nat} {P : Program} {l : Nat} {f : FuncId} {tmps : Array Value} {assign body : Code} {w : World} {R : Ending → World → Prop}
    (h : RoundIn Fence.wide m P l f tmps assign body w R) : RoundIn Fence.wide m' P l f tmps assign body w R :=
  ⟨h.1, fun c cs _ => h.2 c cs (room_wide _)⟩
theorem yield_deep {m : Nat} (m' : Nat) {P : Program} {l : Nat} {args : Array Value} {W : World} {R : Ending → World → Prop} (h : YieldAt Fence.wide m P l args W R) : YieldAt Fence.wide m' P l args W R := by
  obtain ⟨fn, tmps, assign, body, hy, hR⟩ := h
  exact ⟨fn, tmps, assign, body, hy, roundIn_deep hR⟩

/- a region that draws its order, in a round -/
theorem wpIn_of_quiet {l n : Nat} {P : Program} {C : World → Prop} {o : Oper} {a : Act} {K : Act → Prop} {K' : Act → World → Prop} {Q' : Exit → Act → World → Prop} {w : World} (hd : ∀ c, o.op ≠ .defer c) (hw : C w) (h : ∀ a w', C w' → K a → K' a w') (hh : o.quiet P a C K) : o.wpIn (Fence.wide.inRound l) n P a w K' Q' := by
  obtain ⟨v, h1, h2⟩ := hh
  have h3 := h1 w hw
  unfold Oper.quietAt at h3
  refine ⟨fun _ _ => trivial, ?_⟩
  rw [show (Fence.wide.inRound l).round = some l from rfl, Oper.semAt_some l _ _ hd]
  generalize (execOp a.eval o).run P w = r at *
  cases r with
  | ok n w' =>
    cases n <;> simp only [Oper.quietUpon] at h3 <;> simp only [Oper.uponIn]
    case value u =>
      obtain ⟨e1, e2⟩ := h3
      rw [e1, e2]
      exact h _ _ hw h2
    case skip =>
      obtain ⟨e1, e2⟩ := h3
      rw [e1, ← e2]
      exact h _ _ hw h2
    case enter f args =>
      obtain ⟨e1, hc⟩ := h3
      rw [e1]
      refine ⟨fun hx => by simp [Fence.wide] at hx, ?_⟩
      refine CallsIn.inRound l (callsIn_wide.2 (hc.mono fun e w'' he => ?_))
      obtain ⟨rfl, hw''⟩ := he
      exact h _ _ hw'' h2
  | halt x w' => simp only [Oper.quietUpon] at h3
def noDefer (ops : List Oper) : Bool := ops.all fun o => match o.op with | .defer _ => false | _ => true
theorem noDefer_spec {l : List Oper} (h : noDefer l = true) {i : Nat} {o : Oper} (hi : l.toArray[i]? = some o) : ∀ c, o.op ≠ .defer c := by
  intro c e
  unfold noDefer at h
  rw [List.all_eq_true] at h
  have := h o (by rw [List.getElem?_toArray] at hi; exact List.mem_of_getElem? hi)
  rw [e] at this
  cases this
theorem wpOpIn_of_qOp {ll n : Nat} {P : Program} {ops : List Oper} {C : World → Prop} (hd : noDefer ops = true) {i : Nat} {a : Act} {K : Act → Prop} {K' : Act → World → Prop} {Q' : Exit → Act → World → Prop} {w : World} (hC : C w) (h : ∀ a w', C w' → K a → K' a w') (hh : qOp P ops.toArray C i K a) :
    wpOpIn (Fence.wide.inRound ll) n P ops.toArray Q' i K' a w := by
  unfold qOp at hh
  unfold wpOpIn
  split
  · rename_i ho; simp only [ho] at hh; exact h _ _ hC hh
  · rename_i o ho
    simp only [ho] at hh
    split
    · rename_i hw; simp only [hw, if_true] at hh; exact wpIn_of_quiet (noDefer_spec hd ho) hC h hh
    · rename_i hw; simp only [hw] at hh; exact ⟨fun _ _ => trivial, h _ _ hC hh⟩
theorem wpAnyIn_of_quiet {ll n : Nat} {P : Program} {ops : List Oper} {C : World → Prop} {md : Region.Mode} (hd : noDefer ops = true) {Q : Act → Prop} {Q' : Exit → Act → World → Prop} (hQ : ∀ a w, C w → Q a → Q' .normal a w) : ∀ (fuel : Nat) (listed : Array Bool) (a : Act) (w : World), C w →
    wpAnyQ P md ops.toArray C Q fuel listed a → wpAnyIn (Fence.wide.inRound ll) n P md ops.toArray Q' fuel listed a w
  | 0, _, _, _, hw, h => ⟨h.1, hQ _ _ hw h.2⟩
  | fuel + 1, _, _, _, hw, h => ⟨fun h0 => hQ _ _ hw (h.1 h0), fun i hi => wpOpIn_of_qOp hd hw (fun a' w' hw' => wpAnyIn_of_quiet hd hQ fuel _ a' w' hw') (h.2 i hi)⟩
theorem wpIn_region_quiet_lit {ll n : Nat} {P : Program} {id : Nat} {Q : Exit → Act → World → Prop} {a : Act} {w : World} {l : List Oper} (hm : P.follows .mixedOrders = true) (hB : Region.lexB .any l.toArray = true) (hd : noDefer l = true)
    (h : wpQuiet P l.toArray (fun w' => ∃ n, w' = w.drewN n) (fun a' => ∀ w', (∃ n, w' = w.drewN n) → Q .normal a' w') l a) : (Code.region id l.toArray true).wpIn (Fence.wide.inRound ll) n P Q a w := by
  simp only [Region.lexB, Bool.and_eq_true] at hB
  refine wpIn_region_any hm (wpAnyIn_of_quiet (C := fun w' => ∃ n, w' = w.drewN n) hd (Q := fun a' => ∀ w', (∃ n, w' = w.drewN n) → Q .normal a' w') (fun _ w' hw' h => h w' hw') _ _ _ _ ⟨1, rfl⟩ ?_)
  have := wpAnyQ_lex (C := fun w' => ∃ n, w' = w.drewN n) (md := .any) hB.1 l 0 (Array.replicate l.length false) a (by simp) (by simpa using hB.2) h
  simpa using this
end Go.Proofs.YtmbmkldcedkbmaaGreat
namespace Go.Proofs.YtmbmkldcedkbmaaGreat
open Go.RowKit

/- the block that a slice owns -/
def ownB (A : Option Addr) : Option Nat := A.map (·.block)
theorem sm_grown {w w' : World} {row : Option Nat} (h : w.grownBy w' row) : Sm (fun k => some k ≠ row) w w' := ⟨h.os, h.tape, h.output, h.size, fun k hk hr => h.block k hk hr⟩
theorem own_at {w : World} {B : Nat} {e : TypeId} {A : Option Addr} {n c : Nat} {xs : List Value} (h : OwnV w B e A n c xs) : A = none ∨ ∃ g, A = some ⟨g, 0, none⟩ ∧ B ≤ g ∧ g < w.heap.size := by
  rcases h.2 with ⟨hn, _⟩ | ⟨g, cap, cur, hv, hb, hh, _⟩
  · injection hn with h1; exact .inl h1
  · injection hv with h1; exact .inr ⟨g, h1, hb, (Array.getElem?_eq_some_iff.1 hh).1⟩
theorem own_blk {w : World} {B : Nat} {e : TypeId} {A : Option Addr} {n c : Nat} {xs : List Value} (h : OwnV w B e A n c xs) : (Value.slice A n c).ownBlock = ownB A := by
  rcases own_at h with rfl | ⟨g, rfl, _, _⟩ <;> rfl
theorem OwnV.smo {w w' : World} {B : Nat} {e : TypeId} {A : Option Addr} {n c : Nat} {xs : List Value} {K : Nat → Prop} (h : OwnV w B e A n c xs) (hs : Sm K w w') (hK : ∀ k, ownB A = some k → K k) : OwnV w' B e A n c xs := by
  refine ⟨h.1, ?_⟩
  rcases h.2 with hn | ⟨g, cap, cur, hv, hb, hh, rest⟩
  · exact .inl hn
  · have e : A = some ⟨g, 0, none⟩ := by injection hv
    exact .inr ⟨g, cap, cur, hv, hb, hs.obj (hK g (by rw [e]; rfl)) hh, rest⟩
/- one more number -/
structure ApR (w w' : World) (B : Nat) (e : TypeId) (A : Option Addr) (n : Nat) (xs : List Value) (u : Value) (g cap : Nat) : Prop where
  own : OwnV w' B e (some ⟨g, 0, none⟩) (n + 1) cap (xs ++ [u])
  sm : Sm (fun k => some k ≠ ownB A) w w'
  lies : ownB A = some g ∨ w.heap.size ≤ g
  lt : g < w'.heap.size
theorem run_apI {w : World} {t ty e : TypeId} {z : Value} (ht : Tryz.prog.underlying t = some (.slice e)) (hinfo : (Tryz.prog.info? e).map (fun i => (i.zero, i.size, i.bytes)) = some (some z, 1, 8)) (hzs : z.cells.size = 1)
    {B : Nat} {A : Option Addr} {n c : Nat} {xs : List Value} (hown : OwnV w B e A n c xs) {u : Value} (h1 : u.oneCell' = true) (hlen : n + 1 ≤ 1000000000000) (hB : B ≤ w.heap.size) :
    ∃ g cap w', (Builtin.append_ #[t, t] ty #[.slice A n c, .slice (some ⟨w.heap.size, 0, none⟩) 1 1]).run Tryz.prog (w.alloc (.cells #[u] e)) = .ok (.slice (some ⟨g, 0, none⟩) (n + 1) cap) w' ∧ ApR w w' B e A n xs u g cap := by
  obtain ⟨i0, hi, hz0, hz1, hz2⟩ := info_parts hinfo
  have hown2 : OwnV (w.alloc (.cells #[u] e)) B e A n c xs := World.ownsRow.alloc hown _
  have hsz : (w.alloc (.cells #[u] e)).heap.size = w.heap.size + 1 := by simp
  obtain ⟨g, cap, w', hr, h2, h3, h4, h5⟩ := run_append_lies (P := Tryz.prog) (w.alloc (.cells #[u] e)) t ty B e i0 z 1 8 ht hi hz0 hz1 hz2 hzs (by omega) (.slice A n c) n xs hown2 ⟨w.heap.size, 0, none⟩ 1 1 [u] rfl
    (World.news_of_block (cs := #[u]) (heap_alloc_new w _)) (by simpa using h1) (by omega) (by unfold maxLen; omega) (by omega) (by omega) _ rfl
  rw [own_blk hown2] at h3 h4
  refine ⟨g, cap, w', hr, h2, ((Gr.refl w).allocO _).sm _ |>.trans (sm_grown h3), ?_, h5⟩
  rcases h4 with h4 | h4
  · exact .inl h4
  · exact .inr (by omega)
theorem apP {ops : Array Oper} {rest : List Oper} {o : Oper} {a : Act} {Q : Exit → Act → World → Prop} (w : World) (hgd : o.guard = none) (sl x : Operand) (t e : TypeId) (z : Value)
    (ht : Tryz.prog.underlying t = some (.slice e)) (hinfo : (Tryz.prog.info? e).map (fun i => (i.zero, i.size, i.bytes)) = some (some z, 1, 8)) (hzs : z.cells.size = 1)
    (ho : o.op = .call { callee := .builtin .append, args := #[sl, x], argTypes := #[t, t] })
    (B : Nat) (A : Option Addr) (n c : Nat) (xs : List Value) (hs : a.eval sl = .slice A n c) (hown : OwnV w B e A n c xs) (u : Value) (hx : a.eval x = .slice (some ⟨w.heap.size, 0, none⟩) 1 1) (h1 : u.oneCell' = true) (hlen : n + 1 ≤ 1000000000000) (hB : B ≤ w.heap.size)
    (h : ∀ g cap w', ApR w w' B e A n xs u g cap → wpList Tryz.prog ops Q rest (a.put o.dst (.slice (some ⟨g, 0, none⟩) (n + 1) cap)) w') : wpList Tryz.prog ops Q (o :: rest) a (w.alloc (.cells #[u] e)) := by
  obtain ⟨g, cap, w', hr, hA⟩ := run_apI (ty := o.type) ht hinfo hzs hown h1 hlen hB
  refine wpList_plain hgd fun K hK => ?_
  unfold Oper.wp execOp
  simp only [ho, resolve, invoke, builtin, Sem.run_bind, Sem.run_pure, Result.andThen_ok, List.map_toArray, List.map_cons, List.map_nil, hs, hx, hr]
  exact hK _ _ (h g cap w' hA)
theorem apF {F : Fence} {m : Nat} {ops : Array Oper} {rest : List Oper} {o : Oper} {a : Act} {Q : Exit → Act → World → Prop} (w : World) (hgd : o.guard = none) (sl x : Operand) (t e : TypeId) (z : Value)
    (ht : Tryz.prog.underlying t = some (.slice e)) (hinfo : (Tryz.prog.info? e).map (fun i => (i.zero, i.size, i.bytes)) = some (some z, 1, 8)) (hzs : z.cells.size = 1)
    (ho : o.op = .call { callee := .builtin .append, args := #[sl, x], argTypes := #[t, t] })
    (B : Nat) (A : Option Addr) (n c : Nat) (xs : List Value) (hs : a.eval sl = .slice A n c) (hown : OwnV w B e A n c xs) (u : Value) (hx : a.eval x = .slice (some ⟨w.heap.size, 0, none⟩) 1 1) (h1 : u.oneCell' = true) (hlen : n + 1 ≤ 1000000000000) (hB : B ≤ w.heap.size)
    (h : ∀ g cap w', ApR w w' B e A n xs u g cap → wpListIn F m Tryz.prog ops Q rest (a.put o.dst (.slice (some ⟨g, 0, none⟩) (n + 1) cap)) w') : wpListIn F m Tryz.prog ops Q (o :: rest) a (w.alloc (.cells #[u] e)) := by
  obtain ⟨g, cap, w', hr, hA⟩ := run_apI (ty := o.type) ht hinfo hzs hown h1 hlen hB
  refine wpListIn_plain hgd fun K hK => ?_
  unfold Oper.wpIn
  refine ⟨?_, ?_⟩
  · simp [Oper.about, ho, resolve, Target.leads, Sem.run_pure]
  · rw [Oper.semAt_plain F _ _ (by rw [ho]; intro c hc'; cases hc')]
    simp [execOp, ho, resolve, invoke, builtin, hs, hx, hr, Result.andThen]
    exact hK _ _ (h g cap w' hA)
/- numbers in memory that a range keeps -/
def NumK (w : World) (K : Nat → Prop) (A : Option Addr) (n : Nat) (xs : List Int) : Prop :=
  xs.length = n ∧ (0 < n → ∃ ad : Addr, A = some ad ∧ K ad.block ∧ ad.block < w.heap.size ∧ ∀ j u, xs[j]? = some u → w.cell? (ad.add j) = some (.int .i64 u))
theorem NumK.sm {w w' : World} {K K' : Nat → Prop} {A : Option Addr} {n : Nat} {xs : List Int} (h : NumK w K A n xs) (hs : Sm K' w w') (hK : ∀ k, K k → k < w.heap.size → K' k) : NumK w' K A n xs :=
  ⟨h.1, fun hn => by
    obtain ⟨ad, e, hk, hb, hc⟩ := h.2 hn
    exact ⟨ad, e, hk, Nat.lt_of_lt_of_le hb hs.size, fun j u hu => hs.cell (by rw [add_block]; exact hK _ hk hb) (hc j u hu)⟩⟩
theorem NumK.at_ {w : World} {K : Nat → Prop} {A : Option Addr} {n : Nat} {xs : List Int} (h : NumK w K A n xs) {k : Nat} (hk : k < n) :
    ∃ ad : Addr, ∃ hk' : k < xs.length, A = some ad ∧ w.cell? (ad.add k) = some (.int .i64 xs[k]) := by
  obtain ⟨ad, e, _, _, hc⟩ := h.2 (by omega)
  have hl : k < xs.length := by rw [h.1]; exact hk
  exact ⟨ad, hl, e, hc k _ (List.getElem?_eq_getElem hl)⟩
theorem NumK.of {w : World} {B : Nat} {K : Nat → Prop} {A : Option Addr} {n : Nat} {xs : List Int} (h : Nums w B A n xs) (hB : B ≤ w.heap.size) (hK : ∀ k, k < B → K k) : NumK w K A n xs :=
  ⟨h.1, fun hn => by
    obtain ⟨ad, e, hb, hc⟩ := h.2 hn
    exact ⟨ad, e, hK _ hb, by omega, hc⟩⟩
theorem NumK.nums {w : World} {K : Nat → Prop} {A : Option Addr} {n : Nat} {xs : List Int} (h : NumK w K A n xs) : Nums w w.heap.size A n xs :=
  ⟨h.1, fun hn => by
    obtain ⟨ad, e, _, hb, hc⟩ := h.2 hn
    exact ⟨ad, e, hb, hc⟩⟩
end Go.Proofs.YtmbmkldcedkbmaaGreat
namespace Go.Proofs.YtmbmkldcedkbmaaGreat
open Go.RowKit Go.Shelf
attribute [local go_sem] Oper.semAt_some

def intOf : Value → Int
  | .int _ n => n
  | _ => 0
set_option maxRecDepth 100000 in
set_option maxHeartbeats 4000000 in
theorem indexes_seq (N : Int) (bn : Nat) (w : World) (Kr : Nat → Prop) (hN : N ≤ 4000000000000) (h1 : w.cell? ⟨bn, 0, none⟩ = some (.int .i64 N)) :
    SeqE 2 Tryz.prog 111 #[.pointer (some ⟨bn, 0, none⟩)] (fun x : Int => #[.int .i64 x]) Kr (Ex.upto N.toNat) w := by
  intro l J Jx W hg hJ hJx hY h0
  have hbn := World.block_lt_of_cell? _ _ h1
  replace h1 := hg.keeps hbn h1
  have hn : (1 : Nat) ≤ 2 := by omega
  refine callsIn_of_wp Tryz.func111 rfl trivial ?_ rfl
  simp only [Tryz.ntmps111, List.size_toArray, List.length_cons, List.length_nil, Nat.reduceAdd, Nat.reduceSub, Array.replicate_succ, Array.replicate_zero, List.push_toArray, List.append_toArray, List.nil_append, List.cons_append]
  gi_wp2
  clear hbn
  gi_loopw [5] (fun i wr => ∃ k : Nat, i = .int .i64 (k : Int) ∧ k ≤ N.toNat ∧ Hid (J (fun _ => False) (Ex.upto k) wr) ∧ Hid (W.heap.size ≤ wr.heap.size))
    (fun i _ => N.toNat - (intOf i).toNat)
  case atStart => exact ⟨0, rfl, Nat.zero_le _, Lib.hid h0, Lib.hid (Nat.le_refl _)⟩
  case round =>
    obtain ⟨k, rfl, hk, hj, hz⟩ := hrel
    by_cases hkn : (k : Int) < N
    · have hpre : Ex.upto k ++ [(k : Int)] <+: Ex.upto N.toNat := by rw [← Ex.upto_snoc]; exact Ex.upto_prefix (by omega)
      obtain ⟨fn, tmps, assign, body, hy, hR⟩ := hY (fun _ => False) (Ex.upto k) (k : Int) wr hj.out (fun _ h => h.elim) hpre
      try dsimp only at hy
      have HP := Lib.hid hpre
      clear hpre hY h0 hJ hJx h1
      gi_wp2
      refine hR.mono ?_
      rintro e W3 ⟨hs3, (⟨rfl, hj3⟩ | ⟨rfl, hx3⟩)⟩
      · have HS := Lib.hid hs3.size
        clear hs3 hR hy
        gi_wp2
        go_roundw
        case rel => exact ⟨k + 1, by go_num, by omega, Lib.hid (by rw [Ex.upto_snoc]; exact hj3), Lib.hid (Nat.le_trans hz.out HS.out)⟩
        case measure =>
          show N.toNat - (((k : Int) + 1)).toNat < N.toNat - ((k : Int)).toNat
          omega
      · have HS := Lib.hid hs3.size
        clear hs3 hR hy
        gi_wp2
        refine bodyPost_ret (results_none rfl _ _ _) rfl ?_
        exact ⟨⟨_, rfl⟩, fun _ => False, fun _ h => h.elim, .inr ⟨_, HP.out, hx3⟩⟩
    · have e : k = N.toNat := by omega
      clear hY h0 hJ hJx h1
      gi_wp2
      go_end0
      exact ⟨⟨_, rfl⟩, fun _ => False, fun _ h => h.elim, .inl (by rw [← e]; exact hj.out)⟩
set_option maxRecDepth 100000 in
set_option maxHeartbeats 4000000 in
theorem values_seq (A : Option Addr) (n c : Nat) (zs : List Int) (bv : Nat) (w : World) (Kr : Nat → Prop) (hn2 : n ≤ 1000000) (h1 : w.cell? ⟨bv, 0, none⟩ = some (.slice A n c)) (hz : NumK w Kr A n zs) :
    SeqE 2 Tryz.prog 114 #[.pointer (some ⟨bv, 0, none⟩)] (fun x : Int => #[.int .i64 x]) Kr zs w := by
  intro l J Jx W hg hJ hJx hY h0
  have hbn := World.block_lt_of_cell? _ _ h1
  replace h1 := hg.keeps hbn h1
  replace hz := hz.sm (hg.sm (fun _ => True)) (fun _ _ _ => trivial)
  have hn : (1 : Nat) ≤ 2 := by omega
  have HL := Lib.hid hz.1
  refine callsIn_of_wp Tryz.func114 rfl trivial ?_ rfl
  simp only [Tryz.ntmps114, List.size_toArray, List.length_cons, List.length_nil, Nat.reduceAdd, Nat.reduceSub, Array.replicate_succ, Array.replicate_zero, List.push_toArray, List.append_toArray, List.nil_append, List.cons_append]
  gi_wp2
  clear hbn
  gi_loopw [7] (fun i wr => ∃ k : Nat, i = .int .i64 (k : Int) ∧ k ≤ n ∧ Hid (J (fun _ => False) (zs.take k) wr) ∧ NumK wr Kr A n zs ∧ Hid (W.heap.size ≤ wr.heap.size))
    (fun i _ => n - (intOf i).toNat)
  case atStart => exact ⟨0, rfl, Nat.zero_le _, Lib.hid h0, hz, Lib.hid (Nat.le_refl _)⟩
  case round =>
    obtain ⟨k, rfl, hk, hj, hz2, hzz⟩ := hrel
    by_cases hkn : k < n
    · obtain ⟨ad, hk', rfl, hc⟩ := hz2.at_ hkn
      have hkn2 : (k : Int) < (n : Int) := by omega
      have HTk := Lib.hid (List.take_succ_eq_append_getElem hk')
      have hpre : zs.take k ++ [zs[k]] <+: zs := by rw [← List.take_succ_eq_append_getElem hk']; exact List.take_prefix _ _
      generalize zs[k] = x at *
      obtain ⟨fn, tmps, assign, body, hy, hR⟩ := hY (fun _ => False) (zs.take k) x wr hj.out (fun _ h => h.elim) hpre
      try dsimp only at hy
      have HP := Lib.hid hpre
      have HZ := Lib.hid hz2
      clear hpre hY h0 hJ hJx h1 hz hz2
      gi_wp2
      refine hR.mono ?_
      rintro e W3 ⟨hs3, (⟨rfl, hj3⟩ | ⟨rfl, hx3⟩)⟩
      · have HS := Lib.hid hs3
        clear hs3 hR hy hc
        gi_wp2
        go_roundw
        case rel => exact ⟨k + 1, by go_num, by omega, Lib.hid (by rw [HTk.out]; exact hj3), HZ.out.sm HS.out (fun _ h _ => .inr h), Lib.hid (Nat.le_trans hzz.out HS.out.size)⟩
        case measure =>
          show n - (((k : Int) + 1)).toNat < n - ((k : Int)).toNat
          omega
      · clear hs3 hR hy hc
        gi_wp2
        refine bodyPost_ret (results_none rfl _ _ _) rfl ?_
        exact ⟨⟨_, rfl⟩, fun _ => False, fun _ h => h.elim, .inr ⟨_, HP.out, hx3⟩⟩
    · have e : k = n := by omega
      have HZ := Lib.hid hz2
      clear hY h0 hJ hJx h1 hz hz2
      gi_wp2
      go_end0
      exact ⟨⟨_, rfl⟩, fun _ => False, fun _ h => h.elim, .inl (by
        have := hj.out
        rw [e, List.take_of_length_le (by rw [HL.out]; exact Nat.le_refl _)] at this
        exact this)⟩
end Go.Proofs.YtmbmkldcedkbmaaGreat
