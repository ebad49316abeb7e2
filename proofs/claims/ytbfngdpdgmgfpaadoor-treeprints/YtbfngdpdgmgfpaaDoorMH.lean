/- The texts TrStk, TrOwn, TrWk, TrBeg, TrEnd, TrAdd, TrParse, TrAw, one behind the other. -/
import Derived.Test.YtbfngdpdgmgfpaaDoorMB
import Derived.Test.YtbfngdpdgmgfpaaDoorMG
import Derived.Test.YtbfngdpdgmgfpaaDoorMC
import Derived.Test.YtbfngdpdgmgfpaaDoorMD
import Derived.Test.YtbfngdpdgmgfpaaDoorME
namespace Go.Proofs.YtbfngdpdgmgfpaaDoor
open Go.RowKit

/- the two slices of an open component -/
structure Sl where
  A1 : Option Addr
  n1 : Nat
  c1 : Nat
  A2 : Option Addr
  n2 : Nat
  c2 : Nat
def Sl.v1 (s : Sl) : Value := .slice s.A1 s.n1 s.c1
def Sl.v2 (s : Sl) : Value := .slice s.A2 s.n2 s.c2
def ob (v : Value) : List Nat := v.ownBlock.toList
theorem mem_ob {v : Value} {k : Nat} : k ∈ ob v ↔ v.ownBlock = some k := by unfold ob; cases v.ownBlock <;> simp [eq_comm]
def ows : List Sl → List Nat
  | [] => []
  | s :: q => ob s.v1 ++ (ob s.v2 ++ ows q)
/- the cells of the open components, the outermost first -/
def rowc : List Ln.Tr → List Sl → List Value
  | t :: r, s :: q => rowc r q ++ [.string ⟨t.name.toArray⟩, s.v1, s.v2]
  | _, _ => []
def Stk (w : World) (B : Nat) (F : Nat → Prop) : List Ln.Tr → List Sl → Prop
  | [], [] => True
  | t :: r, s :: q => ERow w B 48 F Ml s.A1 s.n1 s.c1 t.lines ∧ ERow w B 31 F (Mt (3 - r.length)) s.A2 s.n2 s.c2 t.kids ∧ Stk w B F r q
  | _, _ => False
theorem Stk.len {w : World} {B : Nat} {F : Nat → Prop} : ∀ {o : List Ln.Tr} {ss : List Sl}, Stk w B F o ss → ss.length = o.length
  | [], [], _ => rfl
  | _ :: _, _ :: _, ⟨_, _, h⟩ => by simp only [List.length_cons, h.len]
  | [], _ :: _, h => h.elim
  | _ :: _, [], h => h.elim
theorem rowc_len : ∀ {o : List Ln.Tr} {ss : List Sl}, ss.length = o.length → (rowc o ss).length = o.length * 3
  | [], [], _ => rfl
  | _ :: r, _ :: q, h => by simp only [rowc, List.length_append, rowc_len (o := r) (ss := q) (by simpa using h)]; simp; omega
  | [], _ :: _, h => by simp at h
  | _ :: _, [], h => by simp at h
theorem Stk.kept {w w' : World} {B : Nat} {F : Nat → Prop} {row : Option Nat} (hg : w.grownBy w' row) : ∀ {o : List Ln.Tr} {ss : List Sl}, Stk w B F o ss → (∀ k, row = some k → k ∉ ows ss ∧ ¬ F k) → Stk w' B F o ss
  | [], [], _, _ => trivial
  | _ :: _, s :: q, ⟨h1, h2, h3⟩, hr => by
    refine ⟨h1.kept hg (fun k hk => ⟨fun e => (hr k hk).1 ?_, (hr k hk).2⟩), h2.kept hg (fun k hk => ⟨fun e => (hr k hk).1 ?_, (hr k hk).2⟩), h3.kept hg (fun k hk => ⟨fun e => (hr k hk).1 ?_, (hr k hk).2⟩)⟩
    · unfold ows; exact List.mem_append_left _ (mem_ob.2 e)
    · unfold ows; exact List.mem_append_right _ (List.mem_append_left _ (mem_ob.2 e))
    · unfold ows; exact List.mem_append_right _ (List.mem_append_right _ e)
  | [], _ :: _, h, _ => h.elim
  | _ :: _, [], h, _ => h.elim
theorem Stk.weak {w : World} {B : Nat} {F G : Nat → Prop} (hs : ∀ x, x < w.heap.size → F x → G x) : ∀ {o : List Ln.Tr} {ss : List Sl}, Stk w B F o ss → Stk w B G o ss
  | [], [], _ => trivial
  | _ :: _, _ :: _, ⟨h1, h2, h3⟩ => ⟨h1.weak hs, h2.weak hs, h3.weak hs⟩
  | [], _ :: _, h => h.elim
  | _ :: _, [], h => h.elim
theorem Stk.own {w : World} {B : Nat} {F : Nat → Prop} : ∀ {o : List Ln.Tr} {ss : List Sl}, Stk w B F o ss → ∀ k ∈ ows ss, B ≤ k ∧ k < w.heap.size
  | [], [], _, k, hk => by simp [ows] at hk
  | _ :: _, s :: q, ⟨h1, h2, h3⟩, k, hk => by
    unfold ows at hk
    rcases List.mem_append.1 hk with hk | hk
    · exact h1.own k (mem_ob.1 hk)
    · rcases List.mem_append.1 hk with hk | hk
      · exact h2.own k (mem_ob.1 hk)
      · exact h3.own k hk
  | [], _ :: _, h, _, _ => h.elim
  | _ :: _, [], h, _, _ => h.elim
theorem Stk.gr {w w' : World} {B : Nat} {F : Nat → Prop} {o : List Ln.Tr} {ss : List Sl} (h : Stk w B F o ss) (hg : Gr w w') : Stk w' B F o ss := h.kept (hg.grown none) (fun k hk => by cases hk)
theorem ERow.own_weak {α : Type} {M : Mean α} {w : World} {B : Nat} {e : TypeId} {F G : Nat → Prop} {A : Option Addr} {n c : Nat} {us : List α} (h : ERow w B e F M A n c us) (hs : ∀ x, F x → (Value.slice A n c).ownBlock ≠ some x → G x) : ERow w B e G M A n c us := by
  obtain ⟨xs, h1, h2, h3⟩ := h
  refine ⟨xs, h1, h2, fun j a ha => ?_⟩
  obtain ⟨v, g1, g2, g3⟩ := h3 j a ha
  exact ⟨v, g1, g2, g3.weak (fun x _ hf => ⟨hs x hf.1 hf.2, hf.2⟩)⟩
/- which blocks hold what is read only -/
def Fr (B : Nat) (L : List Nat) : Nat → Prop := fun x => B ≤ x ∧ x ∉ L
/- a row among the owned ones moves from v to the block g -/
structure Swp (w : World) (B : Nat) (X : List Nat) (v : Value) (g : Nat) (R : List Nat) : Prop where
  nd : (X ++ ([g] ++ R)).Nodup
  away : ∀ x, x < w.heap.size → Fr B (X ++ (ob v ++ R)) x → Fr B (X ++ (ob v ++ R)) x ∧ x ≠ g
  new : ∀ x, Fr B (X ++ (ob v ++ R)) x → x ≠ g → Fr B (X ++ ([g] ++ R)) x
  old : ∀ k, v.ownBlock = some k → k ∉ X ∧ k ∉ R ∧ ¬ Fr B (X ++ (ob v ++ R)) k
theorem swp {w : World} {B : Nat} {X R : List Nat} {v : Value} {g : Nat} (hnd : (X ++ (ob v ++ R)).Nodup) (hlt : ∀ k ∈ X ++ R, k < w.heap.size) (hgo : v.ownBlock = some g ∨ w.heap.size ≤ g) : Swp w B X v g R := by
  have hnd' := hnd
  rw [List.nodup_append] at hnd
  obtain ⟨n1, n2, n3⟩ := hnd
  rw [List.nodup_append] at n2
  obtain ⟨n4, n5, n6⟩ := n2
  have hgX : g ∉ X := fun h => by
    rcases hgo with e | e
    · exact n3 g h g (List.mem_append_left _ (mem_ob.2 e)) rfl
    · have := hlt g (List.mem_append_left _ h); omega
  have hgR : g ∉ R := fun h => by
    rcases hgo with e | e
    · exact n6 g (mem_ob.2 e) g h rfl
    · have := hlt g (List.mem_append_right _ h); omega
  refine ⟨?_, fun x hx hf => ⟨hf, fun e => ?_⟩, fun x hf hne => ⟨hf.1, fun h => ?_⟩, fun k hk => ⟨fun h => ?_, fun h => ?_, fun h => ?_⟩⟩
  · rw [List.nodup_append]
    refine ⟨n1, by rw [List.singleton_append, List.nodup_cons]; exact ⟨hgR, n5⟩, fun a ha b hb e => ?_⟩
    subst e
    rw [List.singleton_append, List.mem_cons] at hb
    rcases hb with rfl | hb
    · exact hgX ha
    · exact n3 a ha a (List.mem_append_right _ hb) rfl
  · subst e
    rcases hgo with e | e
    · exact hf.2 (List.mem_append_right _ (List.mem_append_left _ (mem_ob.2 e)))
    · omega
  · rcases List.mem_append.1 h with h | h
    · exact hf.2 (List.mem_append_left _ h)
    · rw [List.singleton_append, List.mem_cons] at h
      rcases h with h | h
      · exact hne h
      · exact hf.2 (List.mem_append_right _ (List.mem_append_right _ h))
  · exact n3 k h k (List.mem_append_left _ (mem_ob.2 hk)) rfl
  · exact n6 k (mem_ob.2 hk) k h rfl
  · exact h.2 (List.mem_append_right _ (List.mem_append_left _ (mem_ob.2 hk)))
/- the builder in block bb, with the components o open, the innermost first -/
structure BS (w : World) (bb : Nat) (o : List Ln.Tr) (Ao : Option Addr) (no co : Nat) (ss : List Sl) : Prop where
  c0 : w.cell? ⟨bb, 0, none⟩ = some (.slice Ao no co)
  c1 : w.cell? ⟨bb, 1, none⟩ = some (.bool false)
  c2 : w.cell? ⟨bb, 2, none⟩ = some (.string ⟨#[]⟩)
  c3 : w.cell? ⟨bb, 3, none⟩ = some (.slice none 0 0)
  c4 : w.cell? ⟨bb, 4, none⟩ = some (.slice none 0 0)
  fr : ∀ i, w.frozen? ⟨bb, i, none⟩ = false
  row : w.ownsRow (bb + 1) 31 3 (.slice Ao no co) no (rowc o ss)
  len : o.length = no
  stk : Stk w (bb + 1) (Fr (bb + 1) (ob (.slice Ao no co) ++ ows ss)) o ss
  nd : (ob (.slice Ao no co) ++ ows ss).Nodup
theorem BS.lt {w : World} {bb : Nat} {o : List Ln.Tr} {Ao : Option Addr} {no co : Nat} {ss : List Sl} (h : BS w bb o Ao no co ss) : bb < w.heap.size := World.block_lt_of_cell? _ _ h.c0
theorem BS.gr {w w' : World} {bb : Nat} {o : List Ln.Tr} {Ao : Option Addr} {no co : Nat} {ss : List Sl} (h : BS w bb o Ao no co ss) (hg : Gr w w') : BS w' bb o Ao no co ss :=
  ⟨gr_cell0 hg h.c0, gr_cell0 hg h.c1, gr_cell0 hg h.c2, gr_cell0 hg h.c3, gr_cell0 hg h.c4, fun i => (hg.frozen (by exact h.lt)).trans (h.fr i), World.ownsRow.kept h.row (hg.grown none) (by cases (Value.slice Ao no co).ownBlock <;> simp), h.len, h.stk.gr hg, h.nd⟩
theorem BS.own {w : World} {bb : Nat} {o : List Ln.Tr} {Ao : Option Addr} {no co : Nat} {ss : List Sl} (h : BS w bb o Ao no co ss) : ∀ k ∈ ob (.slice Ao no co) ++ ows ss, bb + 1 ≤ k ∧ k < w.heap.size := fun k hk => by
  rcases List.mem_append.1 hk with hk | hk
  · exact h.row.lt k (mem_ob.1 hk)
  · exact h.stk.own k hk
/- the whole component in the builder's box -/
structure BD (w : World) (bb : Nat) (t : Ln.Tr) (s : Sl) : Prop where
  c1 : w.cell? ⟨bb, 1, none⟩ = some (.bool true)
  c2 : w.cell? ⟨bb, 2, none⟩ = some (.string ⟨t.name.toArray⟩)
  c3 : w.cell? ⟨bb, 3, none⟩ = some s.v1
  c4 : w.cell? ⟨bb, 4, none⟩ = some s.v2
  lns : Fp (fun x => bb + 1 ≤ x) w (fun v => Lns v v.heap.size s.A1 s.n1 t.lines)
  kds : Fp (fun x => bb + 1 ≤ x) w (fun v => Kds 4 v v.heap.size s.A2 s.n2 t.kids)
theorem BD.gr {w w' : World} {bb : Nat} {t : Ln.Tr} {s : Sl} (h : BD w bb t s) (hg : Gr w w') : BD w' bb t s :=
  ⟨gr_cell0 hg h.c1, gr_cell0 hg h.c2, gr_cell0 hg h.c3, gr_cell0 hg h.c4, h.lns.gr hg, h.kds.gr hg⟩
end Go.Proofs.YtbfngdpdgmgfpaaDoor
namespace Go.Proofs.YtbfngdpdgmgfpaaDoor
open Go.RowKit

theorem grown_cell2 {w w' : World} {r : Option Nat} (h : w.grownBy w' r) {p : Addr} {v : Value} (hc : w.cell? p = some v) (hr : r ≠ some p.block) : w'.cell? p = some v := (World.grownBy.cell_far h p (World.block_lt_of_cell? _ _ hc) (fun e => hr e.symm)).trans hc
theorem grown_frozen {w w' : World} {r : Option Nat} (h : w.grownBy w' r) {p : Addr} (hp : p.block < w.heap.size) (hr : r ≠ some p.block) : w'.frozen? p = w.frozen? p := by
  unfold World.frozen?; rw [h.block _ hp (fun e => hr e.symm)]
/- the builder's box, behind a change of a block above it -/
theorem BS.box {w w' : World} {bb : Nat} {o o' : List Ln.Tr} {Ao : Option Addr} {no co : Nat} {ss ss' : List Sl} (h : BS w bb o Ao no co ss) (hb : Below (bb + 1) w w')
    (row : w'.ownsRow (bb + 1) 31 3 (.slice Ao no co) no (rowc o' ss')) (len : o'.length = no) (stk : Stk w' (bb + 1) (Fr (bb + 1) (ob (.slice Ao no co) ++ ows ss')) o' ss') (nd : (ob (.slice Ao no co) ++ ows ss').Nodup) : BS w' bb o' Ao no co ss' := by
  have hc : ∀ i, w'.cell? ⟨bb, i, none⟩ = w.cell? ⟨bb, i, none⟩ := fun i => hb.cell (by show bb < bb + 1; omega)
  exact ⟨(hc 0).trans h.c0, (hc 1).trans h.c1, (hc 2).trans h.c2, (hc 3).trans h.c3, (hc 4).trans h.c4, fun i => (hb.frozen (p := ⟨bb, i, none⟩) (by show bb < bb + 1; omega)).trans (h.fr i), row, len, stk, nd⟩
theorem set_at1 {xs : List Value} {m : Nat} (h : xs.length = m) (a b c u : Value) : (xs ++ [a, b, c]).set (m + 1) u = xs ++ [a, u, c] := by
  rw [List.set_append, if_neg (by omega), show m + 1 - xs.length = 1 by omega]; rfl
theorem set_at2 {xs : List Value} {m : Nat} (h : xs.length = m) (a b c u : Value) : (xs ++ [a, b, c]).set (m + 2) u = xs ++ [a, b, u] := by
  rw [List.set_append, if_neg (by omega), show m + 2 - xs.length = 2 by omega]; rfl
theorem set_at0 {xs : List Value} {m : Nat} (h : xs.length = m) (a b c u : Value) : (xs ++ [a, b, c]).set m u = xs ++ [u, b, c] := by
  rw [List.set_append, if_neg (by omega), show m - xs.length = 0 by omega]; rfl
theorem bs_line {w w' : World} {bb k g0 co : Nat} {t : Ln.Tr} {r : List Ln.Tr} {A1 A2 : Option Addr} {n1 c1 n2 c2 : Nat} {q : List Sl} (h : BS w bb (t :: r) (some ⟨g0, 0, none⟩) (k + 1) co (⟨A1, n1, c1, A2, n2, c2⟩ :: q)) (l : Ln.Li) {g c9 : Nat}
    (hrow : ERow w' (bb + 1) 48 (Fr (bb + 1) (ob (.slice (some ⟨g0, 0, none⟩) (k + 1) co) ++ ows (⟨A1, n1, c1, A2, n2, c2⟩ :: q))) Ml (some ⟨g, 0, none⟩) (n1 + 1) c9 (t.lines ++ [l])) (hgo : (Value.slice A1 n1 c1).ownBlock = some g ∨ w.heap.size ≤ g) (hgw : w.grownBy w' (Value.slice A1 n1 c1).ownBlock) :
    BS (w'.setCell ⟨g0, k * 3 + 1, none⟩ (.slice (some ⟨g, 0, none⟩) (n1 + 1) c9)) bb (.mk t.name (t.lines ++ [l]) t.kids :: r) (some ⟨g0, 0, none⟩) (k + 1) co (⟨some ⟨g, 0, none⟩, n1 + 1, c9, A2, n2, c2⟩ :: q) := by
  have hown := h.own
  have hrl : r.length = k := by have := h.len; simpa using this
  have hsl := h.stk.len
  have hrq : (rowc r q).length = k * 3 := by rw [rowc_len (by simpa using hsl), hrl]
  have hS : Swp w (bb + 1) (ob (.slice (some ⟨g0, 0, none⟩) (k + 1) co)) (Value.slice A1 n1 c1) g (ob (Value.slice A2 n2 c2) ++ ows q) := swp h.nd (fun x hx => (hown x (by
    rcases List.mem_append.1 hx with hx | hx
    · exact List.mem_append_left _ hx
    · exact List.mem_append_right _ (List.mem_append_right _ hx))).2) hgo
  have hg0mem : g0 ∈ ob (Value.slice (some ⟨g0, 0, none⟩) (k + 1) co) := mem_ob.2 rfl
  have hg0 := (hown g0 (List.mem_append_left _ hg0mem)).1
  obtain ⟨_, hk0, hr0⟩ := h.stk
  have hr1 : ∀ x, (Value.slice A1 n1 c1).ownBlock = some x → bb < x := fun x hx => (hown x (List.mem_append_right _ (List.mem_append_left _ (mem_ob.2 hx)))).1
  have hkid := ((hk0.weak (G := fun x => Fr (bb + 1) _ x ∧ x ≠ g) hS.away).kept hgw (fun x hx => ⟨fun e => (hS.old x hx).2.1 (List.mem_append_left _ (mem_ob.2 e)), fun e => (hS.old x hx).2.2 e.1⟩)).weak (G := Fr (bb + 1) (ob (.slice (some ⟨g0, 0, none⟩) (k + 1) co) ++ ([g] ++ (ob (Value.slice A2 n2 c2) ++ ows q)))) (fun x _ hx => hS.new x hx.1 hx.2)
  have hrest := (((Stk.weak (G := fun x => Fr (bb + 1) _ x ∧ x ≠ g) hS.away hr0)).kept hgw (fun x hx => ⟨fun e => (hS.old x hx).2.1 (List.mem_append_right _ e), fun e => (hS.old x hx).2.2 e.1⟩)).weak (G := Fr (bb + 1) (ob (.slice (some ⟨g0, 0, none⟩) (k + 1) co) ++ ([g] ++ (ob (Value.slice A2 n2 c2) ++ ows q)))) (fun x _ hx => hS.new x hx.1 hx.2)
  have hline := hrow.own_weak (G := Fr (bb + 1) (ob (.slice (some ⟨g0, 0, none⟩) (k + 1) co) ++ ([g] ++ (ob (Value.slice A2 n2 c2) ++ ows q)))) (fun x hx hne => hS.new x hx (fun e => hne (by rw [e]; rfl)))
  have hopen : w'.ownsRow (bb + 1) 31 3 (.slice (some ⟨g0, 0, none⟩) (k + 1) co) (k + 1) (rowc (t :: r) (⟨A1, n1, c1, A2, n2, c2⟩ :: q)) := World.ownsRow.kept h.row hgw (.inr (fun e => (hS.old g0 e.symm).1 hg0mem))
  obtain ⟨hst, hgs⟩ := World.ownsRow.stored hopen (k * 3 + 1) (.slice (some ⟨g, 0, none⟩) (n1 + 1) c9)
  have hset : (rowc (t :: r) (⟨A1, n1, c1, A2, n2, c2⟩ :: q)).set (k * 3 + 1) (.slice (some ⟨g, 0, none⟩) (n1 + 1) c9) = rowc (.mk t.name (t.lines ++ [l]) t.kids :: r) (⟨some ⟨g, 0, none⟩, n1 + 1, c9, A2, n2, c2⟩ :: q) := by
    show (rowc r q ++ _).set _ _ = rowc r q ++ _
    exact set_at1 hrq _ _ _ _
  rw [hset] at hst
  have hg0n : g0 ∉ ([g] ++ (ob (Value.slice A2 n2 c2) ++ ows q)) := fun e => by
    have := hS.nd
    rw [List.nodup_append] at this
    exact this.2.2 g0 hg0mem g0 e rfl
  have hs0 : Stk w' (bb + 1) (Fr (bb + 1) (ob (.slice (some ⟨g0, 0, none⟩) (k + 1) co) ++ ([g] ++ (ob (Value.slice A2 n2 c2) ++ ows q)))) (.mk t.name (t.lines ++ [l]) t.kids :: r) (⟨some ⟨g, 0, none⟩, n1 + 1, c9, A2, n2, c2⟩ :: q) := ⟨hline, hkid, hrest⟩
  have hs1 := hs0.kept hgs (fun x hx => by
    injection hx with hx
    subst hx
    exact ⟨hg0n, fun e => e.2 (List.mem_append_left _ hg0mem)⟩)
  have hbl := grown_low (B := bb + 1) hgw h.lt hr1
  exact h.box (hbl.setCell (p := ⟨g0, k * 3 + 1, none⟩) hg0 _) hst (by simp [hrl]) hs1 hS.nd
set_option maxHeartbeats 8000000 in
set_option maxRecDepth 100000 in
theorem bown_any (bb k : Nat) (t : Ln.Tr) (r : List Ln.Tr) (Ao : Option Addr) (co : Nat) (s : Sl) (q : List Sl) (l : Ln.Li) (A : Option Addr) (n c : Nat) (w : World) (h : BS w bb (t :: r) Ao (k + 1) co (s :: q)) (hP : Fp (Fr (bb + 1) (ob (.slice Ao (k + 1) co) ++ ows (s :: q))) w (fun v => Pars v v.heap.size A n l.ps)) (hnc : n ≤ c) (hk3 : k ≤ 3) (hl : t.lines.length ≤ 100000) (hkl : t.kids.length ≤ 100000) :
    Calls Tryd.prog 58 #[.pointer (some ⟨bb, 0, none⟩), .agg #[.string ⟨l.name.toArray⟩, .slice A n c, .string ⟨l.value.toArray⟩]] w fun e w' => Below bb w w' ∧ ((t.kids ≠ [] ∧ e = .returned (.int .i64 5)) ∨ (t.kids = [] ∧ e = .returned (.int .i64 0) ∧ ∃ Ao' no' co' ss', BS w' bb (.mk t.name (t.lines ++ [l]) t.kids :: r) Ao' no' co' ss')) := by
  obtain ⟨A1, n1, c1, A2, n2, c2⟩ := s
  have hg0 : Gr w (w.alloc (.cells #[.string ⟨l.name.toArray⟩, .slice A n c, .string ⟨l.value.toArray⟩] 48)) := (Gr.refl w).allocO _
  have hx0 := Bx3.new w (.string ⟨l.name.toArray⟩) (.slice A n c) (.string ⟨l.value.toArray⟩) 48
  obtain ⟨g0, cap0, hv0, hbb0, hlt0⟩ := h.row.form (by omega)
  injection hv0 with hA hn hc
  subst hA hc
  clear hn
  have hrl : r.length = k := by have := h.len; simpa using this
  have hsl := h.stk.len
  have hrq : (rowc r q).length = k * 3 := by rw [rowc_len (by simpa using hsl), hrl]
  have hcell := fun j (hj : j < (k + 1) * 3) => World.ownsRow.cellAt h.row j hj
  have e0 : rowc (t :: r) (⟨A1, n1, c1, A2, n2, c2⟩ :: q) = rowc r q ++ [.string ⟨t.name.toArray⟩, .slice A1 n1 c1, .slice A2 n2 c2] := rfl
  have k1' := hcell (k * 3 + 1) (by omega)
  have k2' := hcell (k * 3 + 2) (by omega)
  rw [e0, List.getElem?_append_right (by omega), hrq, Nat.add_sub_cancel_left] at k1' k2'
  have k1 : w.cell? ⟨g0, k * 3 + 1, none⟩ = some (.slice A1 n1 c1) := k1'
  have k2 : w.cell? ⟨g0, k * 3 + 2, none⟩ = some (.slice A2 n2 c2) := k2'
  have hfz := World.ownsRow.frozenAt h.row (k * 3 + 1)
  clear k1' k2' hcell e0
  have hn1 : t.lines.length = n1 := by obtain ⟨_, _, h1, _⟩ := h.stk.1; exact h1
  have hn2 : t.kids.length = n2 := by obtain ⟨_, _, h1, _⟩ := h.stk.2.1; exact h1
  have hnl : ∃ nl, nl = ByteArray.mk l.name.toArray := ⟨_, rfl⟩
  have hvl : ∃ vl, vl = ByteArray.mk l.value.toArray := ⟨_, rfl⟩
  obtain ⟨nl, hnl⟩ := hnl
  obtain ⟨vl, hvl⟩ := hvl
  rw [← hnl, ← hvl] at hg0 hx0 ⊢
  have HNL := Lib.hid (And.intro hnl hvl)
  have d0 := gr_cell0 hg0 h.c0
  have j1 := gr_cell0 hg0 k1
  have j2 := gr_cell0 hg0 k2
  have hblt := h.lt
  clear hnl hvl
  by_cases hkn : t.kids = []
  · obtain rfl : n2 = 0 := by rw [← hn2, hkn]; rfl
    have HKN := Lib.hid hkn
    clear hkn hn2
    go_enter Tryd.func58, Tryd.ntmps58
    go_wp2
    go_quiet (fail)
    go_wp2_with fail
    have hgW : Gr w ((w.alloc (.cells #[.string nl, .slice A n c, .string vl] 48)).drewN nq) := hg0.drewN nq
    have hxW := hx0.gr ((Gr.refl _).drewN nq)
    generalize ((w.alloc (.cells #[.string nl, .slice A n c, .string vl] 48)).drewN nq) = W at *
    have d0 := gr_cell hgW k1
    have d1 := hxW.c0
    have d2 := hxW.c1
    have d3 := hxW.c2
    have hS : (fun w' : World => w'.cell? ⟨g0, k * 3 + 1, none⟩ = some (.slice A1 n1 c1) ∧ w'.cell? ⟨w.heap.size, 0, none⟩ = some (.string nl) ∧ w'.cell? ⟨w.heap.size, 1, none⟩ = some (.slice A n c) ∧ w'.cell? ⟨w.heap.size, 2, none⟩ = some (.string vl)) W.drew := ⟨d0, d1, d2, d3⟩
    refine wp_region_last 10 11 (fun w' : World => w'.cell? ⟨g0, k * 3 + 1, none⟩ = some (.slice A1 n1 c1) ∧ w'.cell? ⟨w.heap.size, 0, none⟩ = some (.string nl) ∧ w'.cell? ⟨w.heap.size, 1, none⟩ = some (.slice A n c) ∧ w'.cell? ⟨w.heap.size, 2, none⟩ = some (.string vl)) (by kernel_rfl) rfl ?_
    refine Wk.take (i := 0) (v := ?_) (at_lit rfl) (at_lit rfl) (by kernel_rfl) (by kernel_rfl) (by kernel_rfl) (by kernel_rfl) rfl (fun _ _ _ h => h) ?_ hS ?_
    rotate_left 1
    · intro w' hSw
      obtain ⟨s0, s1, s2, s3⟩ := hSw
      go_simp
      first | done | rfl
    try simp only [Act.put, List.setIfInBounds_toArray, List.set_cons_zero, List.set_cons_succ]
    refine Wk.take (i := 1) (v := ?_) (at_lit rfl) (at_lit rfl) (by kernel_rfl) (by kernel_rfl) (by kernel_rfl) (by kernel_rfl) rfl (fun _ _ _ h => h) ?_ hS ?_
    rotate_left 1
    · intro w' hSw
      obtain ⟨s0, s1, s2, s3⟩ := hSw
      go_simp
      first | done | rfl
    try simp only [Act.put, List.setIfInBounds_toArray, List.set_cons_zero, List.set_cons_succ]
    refine Wk.take (i := 2) (v := ?_) (at_lit rfl) (at_lit rfl) (by kernel_rfl) (by kernel_rfl) (by kernel_rfl) (by kernel_rfl) rfl (fun _ _ _ h => h) ?_ hS ?_
    rotate_left 1
    · intro w' hSw
      obtain ⟨s0, s1, s2, s3⟩ := hSw
      go_simp
      first | done | rfl
    try simp only [Act.put, List.setIfInBounds_toArray, List.set_cons_zero, List.set_cons_succ]
    refine Wk.take (i := 3) (v := ?_) (at_lit rfl) (at_lit rfl) (by kernel_rfl) (by kernel_rfl) (by kernel_rfl) (by kernel_rfl) rfl (fun _ _ _ h => h) ?_ hS ?_
    rotate_left 1
    · intro w' hSw
      obtain ⟨s0, s1, s2, s3⟩ := hSw
      go_simp
      first | done | rfl
    try simp only [Act.put, List.setIfInBounds_toArray, List.set_cons_zero, List.set_cons_succ]
    refine Wk.take (i := 4) (v := ?_) (at_lit rfl) (at_lit rfl) (by kernel_rfl) (by kernel_rfl) (by kernel_rfl) (by kernel_rfl) rfl (fun _ _ _ h => h) ?_ hS ?_
    rotate_left 1
    · intro w' hSw
      obtain ⟨s0, s1, s2, s3⟩ := hSw
      go_simp
      first | done | rfl
    try simp only [Act.put, List.setIfInBounds_toArray, List.set_cons_zero, List.set_cons_succ]
    refine Wk.take (i := 5) (v := ?_) (at_lit rfl) (at_lit rfl) (by kernel_rfl) (by kernel_rfl) (by kernel_rfl) (by kernel_rfl) rfl (fun _ _ _ h => h) ?_ hS ?_
    rotate_left 1
    · intro w' hSw
      obtain ⟨s0, s1, s2, s3⟩ := hSw
      go_simp
      first | done | rfl
    try simp only [Act.put, List.setIfInBounds_toArray, List.set_cons_zero, List.set_cons_succ]
    have hgD : Gr w W.drew := hgW.drew
    have hBD := h.gr hgD
    have hPD := hP.gr hgD
    refine Wk.one (i := 6) (at_lit rfl) (by kernel_rfl) (fun K hK => ?_)
    go_simp
    have hgC : Gr W.drew (W.drew.alloc (.cells #[.string nl, .slice A n c, .string vl] 48)) := (Gr.refl _).allocO _
    refine hK _ _ (fun _ => ⟨gr_cell hgC d0, gr_cell hgC d1, gr_cell hgC d2, gr_cell hgC d3⟩) ?_
    clear hK K
    refine Wk.one (i := 7) (at_lit rfl) (by kernel_rfl) (fun K hK => ?_)
    have hbW : bb + 1 ≤ W.drew.heap.size := by have := hgD.lt; omega
    have hM : Fp (fun x => Fr (bb + 1) (ob (.slice (some ⟨g0, 0, none⟩) (k + 1) co) ++ ows (⟨A1, n1, c1, A2, 0, c2⟩ :: q)) x ∧ (Value.slice A1 n1 c1).ownBlock ≠ some x) W.drew (Ml l [.string nl, .slice A n c, .string vl]) :=
      fun w' ha => ⟨A, n, c, by rw [HNL.out.1, HNL.out.2], hPD w' (ha.weak (fun x _ hx => ⟨hx, fun e => hx.2 (List.mem_append_right _ (List.mem_append_left _ (mem_ob.2 e)))⟩)), hnc⟩
    refine st_row W.drew (by rfl) (.tmp 27) (.tmp 29) 28 48 _ 56 Tryd.underlying28 info_line rfl (by rfl) (bb + 1) (Fr (bb + 1) (ob (.slice (some ⟨g0, 0, none⟩) (k + 1) co) ++ ows (⟨A1, n1, c1, A2, 0, c2⟩ :: q))) A1 n1 c1 t.lines (by rfl) hBD.stk.1 l (.string nl) (.slice A n c) (.string vl) rfl rfl rfl hM (by rfl) (by omega) (by omega) hbW ?_
    intro g c9 w3 hrow3 hgo hgw
    have hown := hBD.own
    have ho1 : ∀ x, (Value.slice A1 n1 c1).ownBlock = some x → bb + 1 ≤ x ∧ x < W.drew.heap.size := fun x hx => hown x (List.mem_append_right _ (List.mem_append_left _ (mem_ob.2 hx)))
    have hng : (Value.slice A1 n1 c1).ownBlock ≠ some g0 := fun e => by
      have := hBD.nd
      rw [List.nodup_append] at this
      exact this.2.2 g0 (mem_ob.2 rfl) g0 (List.mem_append_left _ (mem_ob.2 e)) rfl
    have hnw : (Value.slice A1 n1 c1).ownBlock ≠ some w.heap.size := fun e => by
      have := (h.own w.heap.size (List.mem_append_right _ (List.mem_append_left _ (mem_ob.2 e)))).2
      omega
    have e0 := grown_cell2 hgw d0 hng
    have e1 := grown_cell2 hgw d1 hnw
    have e2 := grown_cell2 hgw d2 hnw
    have e3 := grown_cell2 hgw d3 hnw
    have g31 : w3.frozen? ⟨g0, k * 3 + 1, none⟩ = false := (grown_frozen hgw (World.block_lt_of_cell? _ _ d0) hng).trans ((hgD.frozen hlt0).trans hfz)
    have hS : (fun w' : World => w'.cell? ⟨g0, k * 3 + 1, none⟩ = some (.slice A1 n1 c1) ∧ w'.cell? ⟨w.heap.size, 0, none⟩ = some (.string nl) ∧ w'.cell? ⟨w.heap.size, 1, none⟩ = some (.slice A n c) ∧ w'.cell? ⟨w.heap.size, 2, none⟩ = some (.string vl)) w3 := ⟨e0, e1, e2, e3⟩
    refine hK _ _ (fun _ => hS) ?_
    clear hK K
    simp only [Act.put, List.setIfInBounds_toArray, List.set_cons_zero, List.set_cons_succ]
    refine Wk.one (i := 8) (at_lit rfl) (by kernel_rfl) (fun K hK => ?_)
    go_simp
    refine hK _ _ (fun _ => hS) ?_
    clear hK K
    try simp only [Act.put, List.setIfInBounds_toArray, List.set_cons_zero, List.set_cons_succ]
    refine Wk.take (i := 9) (v := ?_) (at_lit rfl) (at_lit rfl) (by kernel_rfl) (by kernel_rfl) (by kernel_rfl) (by kernel_rfl) rfl (fun _ _ _ h => h) ?_ hS ?_
    rotate_left 1
    · intro w' hSw
      obtain ⟨s0, s1, s2, s3⟩ := hSw
      go_simp
      first | done | rfl
    try simp only [Act.put, List.setIfInBounds_toArray, List.set_cons_zero, List.set_cons_succ]
    refine Wk.one (i := 10) (at_lit rfl) (by kernel_rfl) (fun K hK => ?_)
    go_simp
    refine hK _ _ (fun h => absurd rfl h) ?_
    clear hK K
    refine Wk.done (by kernel_rfl) ?_
    have hbs := bs_line hBD l hrow3 hgo hgw
    have hbl : Below bb w (w3.setCell ⟨g0, k * 3 + 1, none⟩ (.slice (some ⟨g, 0, none⟩) (n1 + 1) c9)) := ((hgD.low (by omega)).trans (grown_low hgw (by omega) (fun x hx => by have := (ho1 x hx).1; omega))).setCell (p := ⟨g0, k * 3 + 1, none⟩) (by show bb ≤ g0; omega) _
    generalize World.setCell _ _ _ = W9 at *
    go_wp2
    go_ret
    exact ⟨hbl, .inr ⟨HKN.out, rfl, _, _, _, _, hbs⟩⟩
  · have hpos : 0 < n2 := by rw [← hn2]; exact List.length_pos_iff.2 hkn
    have hpi : (0 : Int) < (n2 : Int) := by omega
    have HKN := Lib.hid hkn
    clear hkn hn2
    go_enter Tryd.func58, Tryd.ntmps58
    go_wp2
    go_quiet (fail)
    go_wp2
    go_ret
    exact ⟨(hg0.drewN _).low (by omega), .inl ⟨HKN.out, rfl⟩⟩
end Go.Proofs.YtbfngdpdgmgfpaaDoor
namespace Go.Proofs.YtbfngdpdgmgfpaaDoor
open Go.RowKit

section
variable {ops : Array Oper} {Q : Exit → Act → World → Prop} {S : World → Prop} {ex : Nat → Bool}
def Wx (ops : Array Oper) (Q : Exit → Act → World → Prop) (S : World → Prop) (ex : Nat → Bool) : Nat → Array Bool → Act → World → Prop
  | 0, listed, a, w => Region.ready .any ops listed = [] ∧ Q .normal a w
  | m + 1, listed, a, w => (Region.ready .any ops listed = [] → Q .normal a w) ∧
      ∀ i ∈ Region.ready .any ops listed, wpOp Tryd.prog ops Q i (fun a' w' => (ex i = false → S w') ∧ Wx ops Q S ex m (listed.setIfInBounds i true) a' w') a w
theorem Wx.any : ∀ (m : Nat) (listed : Array Bool) (a : Act) (w : World), Wx ops Q S ex m listed a w → wpAny Tryd.prog .any ops Q m listed a w
  | 0, _, _, _, h => h
  | m + 1, _, _, _, h => ⟨h.1, fun i hi => wpOp_mono (fun a' w' g => Wx.any m _ a' w' g.2) (h.2 i hi)⟩
def waits (ops : Array Oper) (ex : Nat → Bool) (i : Nat) : Bool := (List.range ops.size).all fun k => !ex k || ((ops[k]?).any fun ok => ok.after.any (fun e => Region.binds .any e && e.on == i))
theorem Wx.first {i : Nat} {oi : Oper} {v : Value} (hi : ops[i]? = some oi) (hw : waits ops ex i = true) (hs : Region.noSelect ops = true)
    (hQ : ∀ c a w, Q (.panic c) (a.put oi.dst v) w → Q (.panic c) a w) : ∀ (m : Nat) (listed : Array Bool) (a : Act) (w : World),
    (∀ j oj, ops[j]? = some oj → j ≠ i → listed.getD j true = false → (∀ e ∈ oj.after, Region.binds .any e = true → e.on ≠ i) → oi.apart ops oj = true) → i ∈ Region.ready .any ops listed → YieldsIf Tryd.prog ops S oi v a → S w →
    Wx ops Q S ex m (listed.setIfInBounds i true) (a.put oi.dst v) w → Wx ops Q S ex (m + 1) listed a w := by
  have hsel := Region.noSelect_spec hs
  intro m
  induction m with
  | zero =>
    intro listed a w _ hr hy hS H
    refine ⟨fun e => absurd (e ▸ hr) (by simp), fun j hj => ?_⟩
    by_cases e : j = i
    · subst e; exact hy.wpOp hi hS ⟨fun _ => hS, H⟩
    · have hj2 := ready_mono hj e
      rw [H.1] at hj2; cases hj2
  | succ m ih =>
    intro listed a w hf hr hy hS H
    refine ⟨fun e => absurd (e ▸ hr) (by simp), fun j hj => ?_⟩
    by_cases e : j = i
    · subst e; exact hy.wpOp hi hS ⟨fun _ => hS, H⟩
    · obtain ⟨hun, oj, hoj, hall⟩ := mem_ready.1 hj
      have hno : ∀ x ∈ oj.after, Region.binds .any x = true → x.on ≠ i := fun x hx hb ex => by
        have h1 := hall x hx hb
        rw [ex, ready_unlisted hr] at h1; cases h1
      have hjk : ex j = false := by
        cases hex : ex j with
        | false => rfl
        | true =>
          have h0 := List.all_eq_true.1 hw j (List.mem_range.2 (Array.getElem?_eq_some_iff.1 hoj).1)
          rw [hex, hoj] at h0
          have h1 : oj.after.any (fun e => Region.binds .any e && e.on == i) = true := h0
          obtain ⟨x, hx, hb⟩ := Array.any_eq_true'.1 h1
          simp only [Bool.and_eq_true, beq_iff_eq] at hb
          exact absurd hb.2 (hno x hx hb.1)
      have h2 := wpOp_putIf hoj (hf j oj hoj e hun hno) (fun cs b => hsel i oi cs b hi) (fun cs b => hsel j oj cs b hoj) hQ hy (H.2 j (ready_mono hj e))
      refine wpOp_mono (fun a' w' g => ⟨fun _ => g.2.1 hjk, ih _ a' w' (fun q oq hq hqi hqu hqn => ?_) (ready_mono hr (Ne.symm e)) g.1 (g.2.1 hjk) ?_⟩) h2
      · refine hf q oq hq hqi ?_ hqn
        by_cases ejq : j = q
        · rw [← ejq]; exact hun
        · rw [getD_set_ne true ejq] at hqu; exact hqu
      · rw [Array.setIfInBounds_comm _ _ e]; exact g.2.2
theorem Wx.take {i : Nat} {oi : Oper} {v : Value} {m : Nat} {listed : Array Bool} {a : Act} {w : World} (hi : ops[i]? = some oi) (hw : waits ops ex i = true)
    (hs : Region.noSelect ops = true) (hf : Region.free .any ops listed i = true) (hr : (Region.ready .any ops listed).contains i = true) (hg : oi.guard = none)
    (hQ : ∀ c a w, Q (.panic c) (a.put oi.dst v) w → Q (.panic c) a w) (hy : ∀ w, S w → (execOp a.eval oi).run Tryd.prog w = .ok (.value v) w) (hS : S w)
    (h : Wx ops Q S ex m (listed.setIfInBounds i true) (a.put oi.dst v) w) : Wx ops Q S ex (m + 1) listed a w :=
  Wx.first hi hw hs hQ m listed a w (Region.free_spec hi hf) (by simpa using hr) (.inl ⟨by simp [Region.wanted, hg], hy⟩) hS h
/- an operation that yields one value in whatever world -/
theorem Wx.firstP {i : Nat} {oi : Oper} {v : Value} (hi : ops[i]? = some oi) (hs : Region.noSelect ops = true) (hx : ex i = true)
    (hQ : ∀ c a w, Q (.panic c) (a.put oi.dst v) w → Q (.panic c) a w) : ∀ (m : Nat) (listed : Array Bool) (a : Act) (w : World),
    (∀ j oj, ops[j]? = some oj → j ≠ i → listed.getD j true = false → (∀ e ∈ oj.after, Region.binds .any e = true → e.on ≠ i) → oi.apart ops oj = true) → i ∈ Region.ready .any ops listed → YieldsIf Tryd.prog ops (fun _ => True) oi v a →
    Wx ops Q S ex m (listed.setIfInBounds i true) (a.put oi.dst v) w → Wx ops Q S ex (m + 1) listed a w := by
  have hsel := Region.noSelect_spec hs
  intro m
  induction m with
  | zero =>
    intro listed a w _ hr hy H
    refine ⟨fun e => absurd (e ▸ hr) (by simp), fun j hj => ?_⟩
    by_cases e : j = i
    · subst e; exact hy.wpOp hi trivial ⟨fun h => (by rw [hx] at h; cases h), H⟩
    · have hj2 := ready_mono hj e
      rw [H.1] at hj2; cases hj2
  | succ m ih =>
    intro listed a w hf hr hy H
    refine ⟨fun e => absurd (e ▸ hr) (by simp), fun j hj => ?_⟩
    by_cases e : j = i
    · subst e; exact hy.wpOp hi trivial ⟨fun h => (by rw [hx] at h; cases h), H⟩
    · obtain ⟨hun, oj, hoj, hall⟩ := mem_ready.1 hj
      have hno : ∀ x ∈ oj.after, Region.binds .any x = true → x.on ≠ i := fun x hx hb ex => by
        have h1 := hall x hx hb
        rw [ex, ready_unlisted hr] at h1; cases h1
      have h2 := wpOp_putIf hoj (hf j oj hoj e hun hno) (fun cs b => hsel i oi cs b hi) (fun cs b => hsel j oj cs b hoj) hQ hy (H.2 j (ready_mono hj e))
      refine wpOp_mono (fun a' w' g => ⟨g.2.1, ih _ a' w' (fun q oq hq hqi hqu hqn => ?_) (ready_mono hr (Ne.symm e)) g.1 ?_⟩) h2
      · refine hf q oq hq hqi ?_ hqn
        by_cases ejq : j = q
        · rw [← ejq]; exact hun
        · rw [getD_set_ne true ejq] at hqu; exact hqu
      · rw [Array.setIfInBounds_comm _ _ e]; exact g.2.2
theorem Wx.takeP {i : Nat} {oi : Oper} {v : Value} {m : Nat} {listed : Array Bool} {a : Act} {w : World} (hi : ops[i]? = some oi) (hx : ex i = true)
    (hs : Region.noSelect ops = true) (hf : Region.free .any ops listed i = true) (hr : (Region.ready .any ops listed).contains i = true) (hg : oi.guard = none)
    (hQ : ∀ c a w, Q (.panic c) (a.put oi.dst v) w → Q (.panic c) a w) (hy : ∀ w, (execOp a.eval oi).run Tryd.prog w = .ok (.value v) w)
    (h : Wx ops Q S ex m (listed.setIfInBounds i true) (a.put oi.dst v) w) : Wx ops Q S ex (m + 1) listed a w :=
  Wx.firstP hi hs hx hQ m listed a w (Region.free_spec hi hf) (by simpa using hr) (.inl ⟨by simp [Region.wanted, hg], fun w _ => hy w⟩) h
theorem Wx.one {i : Nat} {oi : Oper} {m : Nat} {listed : Array Bool} {a : Act} {w : World} (hi : ops[i]? = some oi) (hr : Region.ready .any ops listed = [i])
    (h : ∀ K : Act → World → Prop, (∀ a' w', (ex i = false → S w') → Wx ops Q S ex m (listed.setIfInBounds i true) a' w' → K a' w') → if Region.wanted oi (yielded ops a.tmps) = true then Oper.wp Tryd.prog oi a w K Q else K (a.put oi.dst undef) w) : Wx ops Q S ex (m + 1) listed a w := by
  refine ⟨fun e => (by rw [hr] at e; cases e), fun j hj => ?_⟩
  rw [hr] at hj
  obtain rfl := List.mem_singleton.1 hj
  exact wpOp_step hi (fun K hK => h K (fun a' w' h1 h2 => hK a' w' ⟨h1, h2⟩))
theorem Wx.two {i j : Nat} {oi oj : Oper} {m : Nat} {listed : Array Bool} {a : Act} {w : World} (hi : ops[i]? = some oi) (hj : ops[j]? = some oj) (hr : Region.ready .any ops listed = [i, j])
    (h1 : ∀ K : Act → World → Prop, (∀ a' w', (ex i = false → S w') → Wx ops Q S ex m (listed.setIfInBounds i true) a' w' → K a' w') → if Region.wanted oi (yielded ops a.tmps) = true then Oper.wp Tryd.prog oi a w K Q else K (a.put oi.dst undef) w)
    (h2 : ∀ K : Act → World → Prop, (∀ a' w', (ex j = false → S w') → Wx ops Q S ex m (listed.setIfInBounds j true) a' w' → K a' w') → if Region.wanted oj (yielded ops a.tmps) = true then Oper.wp Tryd.prog oj a w K Q else K (a.put oj.dst undef) w) : Wx ops Q S ex (m + 1) listed a w := by
  refine ⟨fun e => (by rw [hr] at e; cases e), fun x hx => ?_⟩
  rw [hr] at hx
  rcases List.mem_cons.1 hx with rfl | hx
  · exact wpOp_step hi (fun K hK => h1 K (fun a' w' h1 h2 => hK a' w' ⟨h1, h2⟩))
  · obtain rfl := List.mem_singleton.1 hx
    exact wpOp_step hj (fun K hK => h2 K (fun a' w' h1 h2 => hK a' w' ⟨h1, h2⟩))
theorem Wx.done {m : Nat} {listed : Array Bool} {a : Act} {w : World} (hr : Region.ready .any ops listed = []) (h : Q .normal a w) : Wx ops Q S ex m listed a w := by
  cases m with
  | zero => exact ⟨hr, h⟩
  | succ m => exact ⟨fun _ => h, by rw [hr]; simp⟩
theorem wp_region_ex {id : Nat} {a : Act} {w : World} (ex : Nat → Bool) (m : Nat) (S : World → Prop) (hm : Tryd.prog.follows .mixedOrders = true) (hz : ops.size = m) (h : Wx ops Q S ex m (Array.replicate m false) a w.drew) : (Code.region id ops true).wp Tryd.prog Q a w := by
  subst hz
  exact wp_region_any hm (Wx.any _ _ _ _ h)
end
/- append(out, element), at the level of cells -/
theorem st_raw {ops : Array Oper} {o : Oper} {a : Act} {K : Act → World → Prop} {Q : Exit → Act → World → Prop} {E : Prop} (w : World) (hgd : o.guard = none) (sl x : Operand) (t e : TypeId) (z : Value) (bytes : Nat)
    (ht : Tryd.prog.underlying t = some (.slice e)) (hinfo : (Tryd.prog.info? e).map (fun i => (i.zero, i.size, i.bytes)) = some (some z, 3, bytes)) (hz : z.cells.size = 3)
    (ho : o.op = .call { callee := .builtin .append, args := #[sl, x], argTypes := #[t, t] })
    (B : Nat) (A : Option Addr) (n c : Nat) (xs : List Value) (hs : a.eval sl = .slice A n c) (hrow : w.ownsRow B e 3 (.slice A n c) n xs) (x0 x1 x2 : Value) (h0 : x0.oneCell' = true) (h1' : x1.oneCell' = true) (h2' : x2.oneCell' = true)
    (hx : a.eval x = .slice (some ⟨w.heap.size, 0, none⟩) 1 1) (hlen : (n + 1) * bytes ≤ 140737488355328) (hn : n + 1 ≤ 140737488355328) (hB : B ≤ w.heap.size)
    (h : ∀ g c' w', w'.ownsRow B e 3 (.slice (some ⟨g, 0, none⟩) (n + 1) c') (n + 1) (xs ++ [x0, x1, x2]) → ((Value.slice A n c).ownBlock = some g ∨ w.heap.size ≤ g) → w.grownBy w' (Value.slice A n c).ownBlock → K (a.put o.dst (.slice (some ⟨g, 0, none⟩) (n + 1) c')) w') :
    if Region.wanted o (yielded ops a.tmps) = true then Oper.wp Tryd.prog o a (w.alloc (.cells #[x0, x1, x2] e)) K Q else E := by
  obtain ⟨i0, hi, hz0, hz1, hz2⟩ := info_parts hinfo
  have hsz : (w.alloc (.cells #[x0, x1, x2] e)).heap.size = w.heap.size + 1 := by simp
  have hown2 : (w.alloc (.cells #[x0, x1, x2] e)).ownsRow B e 3 (.slice A n c) n xs := World.ownsRow.alloc hrow _
  refine step_append_lies _ hgd sl x t ho B e i0 _ 3 bytes ht hi hz0 hz1 hz2 hz (by omega) (.slice A n c) n xs hs hown2 ⟨w.heap.size, 0, none⟩ 1 1 [x0, x1, x2] hx rfl
    (World.news_of_block (cs := #[x0, x1, x2]) (t := e) (fr := (0, 0)) (heap_alloc_new w _)) (by simp [h0, h1', h2']) (by omega) (by unfold maxLen; omega) (by omega) (by omega) (w.heap.size + 1) (by simp) ?_
  intro g cap w' g1 g2 g3 _
  have hgr : Gr w (w.alloc (.cells #[x0, x1, x2] e)) := (Gr.refl w).allocO _
  exact h g cap w' g1 (by rcases g3 with g3 | g3; exact .inl g3; exact .inr (by omega)) (World.grownBy.trans ⟨hgr.below.os, hgr.below.tape, hgr.below.output, hgr.below.size, fun i hi _ => hgr.below.block i hi⟩ g2)
end Go.Proofs.YtbfngdpdgmgfpaaDoor
namespace Go.Proofs.YtbfngdpdgmgfpaaDoor
open Go.RowKit

/- an element of a row is stored, cell by cell -/
def set3 (w : World) (g m : Nat) (x0 x1 x2 : Value) : World := ((w.setCell ⟨g, m, none⟩ x0).setCell ⟨g, m + 1, none⟩ x1).setCell ⟨g, m + 2, none⟩ x2
theorem row_set3 {w : World} {B : Nat} {e : TypeId} {g n c : Nat} {xs : List Value} {z0 z1 z2 : Value} (hx : xs.length = n * 3) (h : w.ownsRow B e 3 (.slice (some ⟨g, 0, none⟩) (n + 1) c) (n + 1) (xs ++ [z0, z1, z2])) (x0 x1 x2 : Value) :
    (set3 w g (n * 3) x0 x1 x2).ownsRow B e 3 (.slice (some ⟨g, 0, none⟩) (n + 1) c) (n + 1) (xs ++ [x0, x1, x2]) ∧ w.grownBy (set3 w g (n * 3) x0 x1 x2) (some g) := by
  obtain ⟨a1, b1⟩ := World.ownsRow.stored h (n * 3) x0
  rw [set_at0 hx] at a1
  obtain ⟨a2, b2⟩ := World.ownsRow.stored a1 (n * 3 + 1) x1
  rw [set_at1 hx] at a2
  obtain ⟨a3, b3⟩ := World.ownsRow.stored a2 (n * 3 + 2) x2
  rw [set_at2 hx] at a3
  exact ⟨a3, World.grownBy.trans (World.grownBy.trans b1 b2) b3⟩
theorem row_cells {w : World} {B : Nat} {e : TypeId} {g n c : Nat} {xs : List Value} {z0 z1 z2 : Value} (hx : xs.length = n * 3) (h : w.ownsRow B e 3 (.slice (some ⟨g, 0, none⟩) (n + 1) c) (n + 1) (xs ++ [z0, z1, z2])) :
    w.cell? ⟨g, n * 3, none⟩ = some z0 ∧ w.cell? ⟨g, n * 3 + 1, none⟩ = some z1 ∧ w.cell? ⟨g, n * 3 + 2, none⟩ = some z2 ∧ (∀ i, w.frozen? ⟨g, i, none⟩ = false) ∧ B ≤ g ∧ g < w.heap.size := by
  have hc := fun j (hj : j < (n + 1) * 3) => World.ownsRow.cellAt h j hj
  have c0 := hc (n * 3) (by omega)
  have c1 := hc (n * 3 + 1) (by omega)
  have c2 := hc (n * 3 + 2) (by omega)
  rw [List.getElem?_append_right (by omega), hx] at c0 c1 c2
  rw [Nat.sub_self] at c0
  rw [Nat.add_sub_cancel_left] at c1 c2
  exact ⟨c0, c1, c2, fun i => World.ownsRow.frozenAt h i, h.lt g rfl⟩
/- a store below the rows -/
theorem Stk.below {w : World} {B : Nat} {F : Nat → Prop} {o : List Ln.Tr} {ss : List Sl} (h : Stk w B F o ss) {b : Nat} (hb : b < B) (hF : ¬ F b) (i : Nat) (v : Value) : Stk (w.setCell ⟨b, i, none⟩ v) B F o ss :=
  h.kept (Mv.set b w i v) (fun k hk => by
    injection hk with hk
    subst hk
    exact ⟨fun e => by have := (h.own _ e).1; omega, hF⟩)
theorem bs_push {w w3 w9 : World} {bb no co g c9 : Nat} {Ao : Option Addr} {o : List Ln.Tr} {ss : List Sl} (h : BS w bb o Ao no co ss) (nm : List UInt8) (hgo : (Value.slice Ao no co).ownBlock = some g ∨ w.heap.size ≤ g) (hgw : w.grownBy w3 (Value.slice Ao no co).ownBlock)
    (row9 : w9.ownsRow (bb + 1) 31 3 (.slice (some ⟨g, 0, none⟩) (no + 1) c9) (no + 1) (rowc o ss ++ [.string ⟨nm.toArray⟩, .slice none 0 0, .slice none 0 0])) (c0 : w9.cell? ⟨bb, 0, none⟩ = some (.slice (some ⟨g, 0, none⟩) (no + 1) c9))
    (hcs : ∀ i, 0 < i → w9.cell? ⟨bb, i, none⟩ = w3.cell? ⟨bb, i, none⟩) (hfs : ∀ i, w9.frozen? ⟨bb, i, none⟩ = w3.frozen? ⟨bb, i, none⟩)
    (hst : ∀ F, Stk w3 (bb + 1) F o ss → g ∉ ows ss → ¬ F g → ¬ F bb → Stk w9 (bb + 1) F o ss) : BS w9 bb (.mk nm [] [] :: o) (some ⟨g, 0, none⟩) (no + 1) c9 (⟨none, 0, 0, none, 0, 0⟩ :: ss) := by
  have hown := h.own
  have hS : Swp w (bb + 1) [] (Value.slice Ao no co) g (ows ss) := swp h.nd (fun x hx => (hown x (List.mem_append_right _ hx)).2) hgo
  have hr1 : ∀ x, (Value.slice Ao no co).ownBlock = some x → bb + 1 ≤ x := fun x hx => (hown x (List.mem_append_left _ (mem_ob.2 hx))).1
  have hb := grown_low (B := bb + 1) hgw h.lt hr1
  have hc : ∀ i, w3.cell? ⟨bb, i, none⟩ = w.cell? ⟨bb, i, none⟩ := fun i => hb.cell (by show bb < bb + 1; omega)
  have hgn : g ∉ ows ss := by
    have := hS.nd
    rw [List.nil_append, List.singleton_append, List.nodup_cons] at this
    exact this.1
  have hs1 := (Stk.weak (G := fun x => Fr (bb + 1) _ x ∧ x ≠ g) hS.away h.stk).kept hgw (fun x hx => ⟨(hS.old x hx).2.1, fun e => (hS.old x hx).2.2 e.1⟩)
  have hs2 := (hst _ hs1 hgn (fun e => e.2 rfl) (fun e => by have := e.1.1; omega)).weak (G := Fr (bb + 1) ([] ++ ([g] ++ ows ss))) (fun x _ hx => hS.new x hx.1 hx.2)
  refine ⟨c0, (hcs 1 (by omega)).trans ((hc 1).trans h.c1), (hcs 2 (by omega)).trans ((hc 2).trans h.c2), (hcs 3 (by omega)).trans ((hc 3).trans h.c3), (hcs 4 (by omega)).trans ((hc 4).trans h.c4), fun i => (hfs i).trans ((hb.frozen (p := ⟨bb, i, none⟩) (by show bb < bb + 1; omega)).trans (h.fr i)), row9, by simp [h.len], ?_, hS.nd⟩
  exact ⟨ERow.nil _ _ _ _ _, ERow.nil _ _ _ _ _, hs2⟩
theorem str_back (s : ByteArray) : (⟨s.data.toList.toArray⟩ : ByteArray) = s := by cases s; simp
/- cells of another block, behind the store of an element, and behind that of a cell -/
theorem set3_cell {w : World} {g m : Nat} {x0 x1 x2 : Value} {b : Nat} (hb : b ≠ g) (i : Nat) : (set3 w g m x0 x1 x2).cell? ⟨b, i, none⟩ = w.cell? ⟨b, i, none⟩ := by
  unfold set3
  have hn : ∀ j, (⟨g, j, none⟩ : Addr) ≠ ⟨b, i, none⟩ := fun j e => hb (congrArg Addr.block e).symm
  rw [World.cell?_setCell_other (h := hn _), World.cell?_setCell_other (h := hn _), World.cell?_setCell_other (h := hn _)]
theorem set3_frozen {w : World} {g m : Nat} {x0 x1 x2 : Value} (p : Addr) : (set3 w g m x0 x1 x2).frozen? p = w.frozen? p := by
  unfold set3
  rw [World.frozen?_setCell, World.frozen?_setCell, World.frozen?_setCell]
set_option maxHeartbeats 8000000 in
set_option maxRecDepth 100000 in
theorem bbegin_any (bb : Nat) (o : List Ln.Tr) (Ao : Option Addr) (no co : Nat) (ss : List Sl) (name : ByteArray) (w : World) (h : BS w bb o Ao no co ss) (hno : no ≤ 4) :
    Calls Tryd.prog 60 #[.pointer (some ⟨bb, 0, none⟩), .string name] w fun e w' => Below bb w w' ∧ ((no = 4 ∧ e = .returned (.int .i64 8)) ∨ (no ≠ 4 ∧ e = .returned (.int .i64 0) ∧ ∃ Ao' no' co' ss', BS w' bb (.mk name.data.toList [] [] :: o) Ao' no' co' ss')) := by
  have d0 := h.c0
  have hblt := h.lt
  have hxl : (rowc o ss).length = no * 3 := by rw [rowc_len h.stk.len, h.len]
  by_cases h4 : no = 4
  · subst h4
    go_enter Tryd.func60, Tryd.ntmps60
    go_wp2
    go_ret
    exact ⟨Below.refl _ _, .inl (by simp)⟩
  · have h4i : ((no : Int) == 4) = false := by rw [beq_eq_false_iff_ne]; omega
    have H4 := Lib.hid h4
    clear h4
    go_enter Tryd.func60, Tryd.ntmps60
    go_wp2_with fail
    have hS : (fun w' : World => w'.cell? ⟨bb, 0, none⟩ = some (.slice Ao no co)) w.drew := d0
    refine wp_region_ex (fun i => Nat.ble 9 i) 14 (fun w' : World => w'.cell? ⟨bb, 0, none⟩ = some (.slice Ao no co)) (by kernel_rfl) rfl ?_
    refine Wx.take (i := 0) (v := ?_) (at_lit rfl) (by kernel_rfl) (by kernel_rfl) (by kernel_rfl) (by kernel_rfl) rfl (fun _ _ _ h => h) ?_ hS ?_
    rotate_left 1
    · intro w' hSw
      have s0 := hSw
      go_simp
      first | done | rfl
    try simp only [Act.put, List.setIfInBounds_toArray, List.set_cons_zero, List.set_cons_succ]
    refine Wx.take (i := 1) (v := ?_) (at_lit rfl) (by kernel_rfl) (by kernel_rfl) (by kernel_rfl) (by kernel_rfl) rfl (fun _ _ _ h => h) ?_ hS ?_
    rotate_left 1
    · intro w' hSw
      have s0 := hSw
      go_simp
      first | done | rfl
    try simp only [Act.put, List.setIfInBounds_toArray, List.set_cons_zero, List.set_cons_succ]
    refine Wx.take (i := 2) (v := ?_) (at_lit rfl) (by kernel_rfl) (by kernel_rfl) (by kernel_rfl) (by kernel_rfl) rfl (fun _ _ _ h => h) ?_ hS ?_
    rotate_left 1
    · intro w' hSw
      have s0 := hSw
      go_simp
      first | done | rfl
    try simp only [Act.put, List.setIfInBounds_toArray, List.set_cons_zero, List.set_cons_succ]
    refine Wx.take (i := 3) (v := ?_) (at_lit rfl) (by kernel_rfl) (by kernel_rfl) (by kernel_rfl) (by kernel_rfl) rfl (fun _ _ _ h => h) ?_ hS ?_
    rotate_left 1
    · intro w' hSw
      have s0 := hSw
      go_simp
      first | done | rfl
    try simp only [Act.put, List.setIfInBounds_toArray, List.set_cons_zero, List.set_cons_succ]
    refine Wx.take (i := 4) (v := ?_) (at_lit rfl) (by kernel_rfl) (by kernel_rfl) (by kernel_rfl) (by kernel_rfl) rfl (fun _ _ _ h => h) ?_ hS ?_
    rotate_left 1
    · intro w' hSw
      have s0 := hSw
      go_simp
      first | done | rfl
    try simp only [Act.put, List.setIfInBounds_toArray, List.set_cons_zero, List.set_cons_succ]
    refine Wx.take (i := 5) (v := ?_) (at_lit rfl) (by kernel_rfl) (by kernel_rfl) (by kernel_rfl) (by kernel_rfl) rfl (fun _ _ _ h => h) ?_ hS ?_
    rotate_left 1
    · intro w' hSw
      have s0 := hSw
      go_simp
      first | done | rfl
    try simp only [Act.put, List.setIfInBounds_toArray, List.set_cons_zero, List.set_cons_succ]
    refine Wx.take (i := 6) (v := ?_) (at_lit rfl) (by kernel_rfl) (by kernel_rfl) (by kernel_rfl) (by kernel_rfl) rfl (fun _ _ _ h => h) ?_ hS ?_
    rotate_left 1
    · intro w' hSw
      have s0 := hSw
      go_simp
      first | done | rfl
    try simp only [Act.put, List.setIfInBounds_toArray, List.set_cons_zero, List.set_cons_succ]
    refine Wx.one (i := 7) (at_lit rfl) (by kernel_rfl) (fun K hK => ?_)
    go_simp
    have hgD : Gr w w.drew := (Gr.refl w).drew
    have hgC : Gr w.drew (w.drew.alloc (.cells #[.string ⟨#[]⟩, .slice none 0 0, .slice none 0 0] 31)) := (Gr.refl _).allocO _
    refine hK _ _ (fun _ => gr_cell hgC d0) ?_
    clear hK K
    try simp only [Act.put, List.setIfInBounds_toArray, List.set_cons_zero, List.set_cons_succ]
    refine Wx.one (i := 8) (at_lit rfl) (by kernel_rfl) (fun K hK => ?_)
    have hBD := h.gr hgD
    refine st_raw w.drew (by rfl) (.tmp 14) (.tmp 18) 29 31 _ 64 Tryd.underlying29 info_tree rfl (by rfl) (bb + 1) Ao no co (rowc o ss) (by rfl) hBD.row (.string ⟨#[]⟩) (.slice none 0 0) (.slice none 0 0) rfl rfl rfl (by rfl) (by omega) (by omega) hBD.lt ?_
    intro g c9 w3 hrow3 hgo hgw
    have hown := hBD.own
    have ho1 : ∀ x, (Value.slice Ao no co).ownBlock = some x → bb + 1 ≤ x := fun x hx => (hown x (List.mem_append_left _ (mem_ob.2 hx))).1
    have hbl := grown_low (B := bb + 1) hgw hBD.lt ho1
    have e0 := (hbl.cell (p := ⟨bb, 0, none⟩) (by show bb < bb + 1; omega)).trans d0
    have f0 : w3.frozen? ⟨bb, 0, none⟩ = false := (hbl.frozen (p := ⟨bb, 0, none⟩) (by show bb < bb + 1; omega)).trans (h.fr 0)
    obtain ⟨z0, z1, z2, hfz, hgB, hglt⟩ := row_cells hxl hrow3
    have fz0 := hfz (no * 3)
    have fz1 := hfz (no * 3 + 1)
    have fz2 := hfz (no * 3 + 2)
    have hkc : (no : Int) < (no : Int) + 1 := by omega
    refine hK _ _ (fun _ => e0) ?_
    clear hK K
    try simp only [Act.put, List.setIfInBounds_toArray, List.set_cons_zero, List.set_cons_succ]
    refine Wx.takeP (i := 9) (v := ?_) (at_lit rfl) (by rfl) (by kernel_rfl) (by kernel_rfl) (by kernel_rfl) rfl (fun _ _ _ h => h) ?_ ?_
    rotate_left 1
    · intro w'
      go_simp
      first | done | rfl
    try simp only [Act.put, List.setIfInBounds_toArray, List.set_cons_zero, List.set_cons_succ]
    refine Wx.takeP (i := 11) (v := ?_) (at_lit rfl) (by rfl) (by kernel_rfl) (by kernel_rfl) (by kernel_rfl) rfl (fun _ _ _ h => h) ?_ ?_
    rotate_left 1
    · intro w'
      go_simp
      first | done | rfl
    try simp only [Act.put, List.setIfInBounds_toArray, List.set_cons_zero, List.set_cons_succ]
    refine Wx.takeP (i := 12) (v := ?_) (at_lit rfl) (by rfl) (by kernel_rfl) (by kernel_rfl) (by kernel_rfl) rfl (fun _ _ _ h => h) ?_ ?_
    rotate_left 1
    · intro w'
      go_simp
      first | done | rfl
    try simp only [Act.put, List.setIfInBounds_toArray, List.set_cons_zero, List.set_cons_succ]
    refine Wx.two (i := 10) (j := 13) (at_lit rfl) (at_lit rfl) (by kernel_rfl) (fun K hK => ?_) (fun K hK => ?_)
    · have hgb : bb ≠ g := by omega
      obtain ⟨r1, r2⟩ := row_set3 hxl hrow3 (.string name) (.slice none 0 0) (.slice none 0 0)
      have q0 : (((w3.setCell ⟨g, no * 3, none⟩ (.string name)).setCell ⟨g, no * 3 + 1, none⟩ (.slice none 0 0)).setCell ⟨g, no * 3 + 2, none⟩ (.slice none 0 0)).cell? ⟨bb, 0, none⟩ = some (.slice Ao no co) := (set3_cell (m := no * 3) hgb 0).trans e0
      have q1 : (((w3.setCell ⟨g, no * 3, none⟩ (.string name)).setCell ⟨g, no * 3 + 1, none⟩ (.slice none 0 0)).setCell ⟨g, no * 3 + 2, none⟩ (.slice none 0 0)).frozen? ⟨bb, 0, none⟩ = false := (set3_frozen (m := no * 3) ⟨bb, 0, none⟩).trans f0
      go_simp
      refine hK _ _ (fun h => by cases h) ?_
      clear hK K
      try simp only [Act.put, List.setIfInBounds_toArray, List.set_cons_zero, List.set_cons_succ]
      refine Wx.one (i := 13) (at_lit rfl) (by kernel_rfl) (fun K hK => ?_)
      go_simp
      refine hK _ _ (fun h => by cases h) ?_
      clear hK K
      try simp only [Act.put, List.setIfInBounds_toArray, List.set_cons_zero, List.set_cons_succ]
      refine Wx.done (by kernel_rfl) ?_
      have hbs : BS ((((w3.setCell ⟨g, no * 3, none⟩ (.string name)).setCell ⟨g, no * 3 + 1, none⟩ (.slice none 0 0)).setCell ⟨g, no * 3 + 2, none⟩ (.slice none 0 0)).setCell ⟨bb, 0, none⟩ (.slice (some ⟨g, 0, none⟩) (no + 1) c9)) bb (.mk name.data.toList [] [] :: o) (some ⟨g, 0, none⟩) (no + 1) c9 (⟨none, 0, 0, none, 0, 0⟩ :: ss) := bs_push hBD name.data.toList hgo hgw
        (by rw [str_back]; exact ownsRow_setCell_below r1 (a := ⟨bb, 0, none⟩) (by show bb < bb + 1; omega) _) (World.cell?_setCell_same _ _ _ q0)
        (fun i hi => by rw [World.cell?_setCell_other (h := fun e => by have := congrArg Addr.off e; simp only at this; omega)]; exact set3_cell (m := no * 3) hgb i) (fun i => by rw [World.frozen?_setCell]; exact set3_frozen (m := no * 3) _)
        (fun F hs h1 h2 h3 => (hs.kept r2 (fun x hx => by injection hx with hx; subst hx; exact ⟨h1, h2⟩)).below (by omega) h3 0 _)
      have hbl9 : Below bb w ((((w3.setCell ⟨g, no * 3, none⟩ (.string name)).setCell ⟨g, no * 3 + 1, none⟩ (.slice none 0 0)).setCell ⟨g, no * 3 + 2, none⟩ (.slice none 0 0)).setCell ⟨bb, 0, none⟩ (.slice (some ⟨g, 0, none⟩) (no + 1) c9)) := (((hgD.low (B := bb) (by omega)).trans (hbl.mono (show bb ≤ bb + 1 by omega))).trans (grown_low (B := bb) r2 (by have := hbl.size; have := hBD.lt; omega) (fun x hx => by injection hx with hx; omega))).setCell (p := ⟨bb, 0, none⟩) (Nat.le_refl _) _
      generalize World.setCell (World.setCell (World.setCell (World.setCell _ _ _) _ _) _ _) _ _ = W9 at *
      go_wp2
      go_ret
      exact ⟨hbl9, .inr ⟨H4.out, rfl, _, _, _, _, hbs⟩⟩
    · have hgb : bb ≠ g := by omega
      have hrowB : (w3.setCell ⟨bb, 0, none⟩ (.slice (some ⟨g, 0, none⟩) (no + 1) c9)).ownsRow (bb + 1) 31 3 (.slice (some ⟨g, 0, none⟩) (no + 1) c9) (no + 1) (rowc o ss ++ [.string ⟨#[]⟩, .slice none 0 0, .slice none 0 0]) := ownsRow_setCell_below hrow3 (a := ⟨bb, 0, none⟩) (by show bb < bb + 1; omega) _
      obtain ⟨r1, r2⟩ := row_set3 hxl hrowB (.string name) (.slice none 0 0) (.slice none 0 0)
      obtain ⟨y0, y1, y2, yf, _, _⟩ := row_cells hxl hrowB
      have yf0 := yf (no * 3)
      have yf1 := yf (no * 3 + 1)
      have yf2 := yf (no * 3 + 2)
      go_simp
      refine hK _ _ (fun h => by cases h) ?_
      clear hK K
      try simp only [Act.put, List.setIfInBounds_toArray, List.set_cons_zero, List.set_cons_succ]
      refine Wx.one (i := 10) (at_lit rfl) (by kernel_rfl) (fun K hK => ?_)
      go_simp
      refine hK _ _ (fun h => by cases h) ?_
      clear hK K
      try simp only [Act.put, List.setIfInBounds_toArray, List.set_cons_zero, List.set_cons_succ]
      refine Wx.done (by kernel_rfl) ?_
      have c0B := World.cell?_setCell_same w3 ⟨bb, 0, none⟩ (.slice (some ⟨g, 0, none⟩) (no + 1) c9) e0
      have hbs : BS (set3 (w3.setCell ⟨bb, 0, none⟩ (.slice (some ⟨g, 0, none⟩) (no + 1) c9)) g (no * 3) (.string name) (.slice none 0 0) (.slice none 0 0)) bb (.mk name.data.toList [] [] :: o) (some ⟨g, 0, none⟩) (no + 1) c9 (⟨none, 0, 0, none, 0, 0⟩ :: ss) := bs_push hBD name.data.toList hgo hgw
        (by rw [str_back]; exact r1) ((set3_cell hgb 0).trans c0B)
        (fun i hi => (set3_cell hgb i).trans (World.cell?_setCell_other _ _ _ _ (h := fun e => by have := congrArg Addr.off e; simp only at this; omega))) (fun i => (set3_frozen _).trans (World.frozen?_setCell _ _ _ _))
        (fun F hs h1 h2 h3 => (hs.below (by omega) h3 0 _).kept r2 (fun x hx => by injection hx with hx; subst hx; exact ⟨h1, h2⟩))
      have hbl9 : Below bb w (set3 (w3.setCell ⟨bb, 0, none⟩ (.slice (some ⟨g, 0, none⟩) (no + 1) c9)) g (no * 3) (.string name) (.slice none 0 0) (.slice none 0 0)) := (((hgD.low (B := bb) (by omega)).trans (hbl.mono (show bb ≤ bb + 1 by omega))).setCell (p := ⟨bb, 0, none⟩) (Nat.le_refl _) _).trans (grown_low (B := bb) r2 (by have := hbl.size; have := hBD.lt; simp; omega) (fun x hx => by injection hx with hx; omega))
      unfold set3 at hbs hbl9
      generalize World.setCell (World.setCell (World.setCell (World.setCell _ _ _) _ _) _ _) _ _ = W9 at *
      go_wp2
      go_ret
      exact ⟨hbl9, .inr ⟨H4.out, rfl, _, _, _, _, hbs⟩⟩
end Go.Proofs.YtbfngdpdgmgfpaaDoor
namespace Go.Proofs.YtbfngdpdgmgfpaaDoor
open Go.RowKit

theorem Fr.less {B : Nat} {L M : List Nat} (h : ∀ x ∈ M, x ∈ L) : ∀ x, Fr B L x → Fr B M x := fun x hx => ⟨hx.1, fun e => hx.2 (h x e)⟩
theorem Mt.parts {d : Nat} {t : Ln.Tr} {x : Value} {A B : Option Addr} {n c m e : Nat} {w : World} (h : Mt d t [x, .slice A n c, .slice B m e] w) : Lns w w.heap.size A n t.lines ∧ Kds d w w.heap.size B m t.kids := by
  obtain ⟨A', n', c', A2, n2, c2, he, h1, h2⟩ := h
  simp only [List.cons.injEq, Value.slice.injEq, and_true] at he
  obtain ⟨_, ⟨rfl, rfl, _⟩, rfl, rfl, _⟩ := he
  exact ⟨h1, h2⟩
/- the innermost component leaves the stack -/
theorem bs_pop {w : World} {bb k g0 co : Nat} {t : Ln.Tr} {r : List Ln.Tr} {A1 A2 : Option Addr} {n1 c1 n2 c2 : Nat} {q : List Sl} (h : BS w bb (t :: r) (some ⟨g0, 0, none⟩) (k + 1) co (⟨A1, n1, c1, A2, n2, c2⟩ :: q)) (hk3 : k ≤ 3) :
    BS (w.setCell ⟨bb, 0, none⟩ (.slice (some ⟨g0, 0, none⟩) k co)) bb r (some ⟨g0, 0, none⟩) k co q ∧ Fp (Fr (bb + 1) (ob (.slice (some ⟨g0, 0, none⟩) k co) ++ ows q)) (w.setCell ⟨bb, 0, none⟩ (.slice (some ⟨g0, 0, none⟩) k co)) (Mt (4 - k) t [.string ⟨t.name.toArray⟩, .slice A1 n1 c1, .slice A2 n2 c2]) := by
  have hrl : r.length = k := by have := h.len; simpa using this
  have hsl := h.stk.len
  have hrq : (rowc r q).length = k * 3 := by rw [rowc_len (by simpa using hsl), hrl]
  obtain ⟨hl0, hk0, hr0⟩ := h.stk
  have hnd := h.nd
  have hmv := Mv.set bb w 0 (.slice (some ⟨g0, 0, none⟩) k co)
  have hless : ∀ x, Fr (bb + 1) (ob (.slice (some ⟨g0, 0, none⟩) (k + 1) co) ++ ows (⟨A1, n1, c1, A2, n2, c2⟩ :: q)) x → Fr (bb + 1) (ob (.slice (some ⟨g0, 0, none⟩) k co) ++ ows q) x := Fr.less (fun x hx => by
    rcases List.mem_append.1 hx with hx | hx
    · exact List.mem_append_left _ hx
    · exact List.mem_append_right _ (List.mem_append_right _ (List.mem_append_right _ hx)))
  have hbF : ¬ Fr (bb + 1) (ob (.slice (some ⟨g0, 0, none⟩) k co) ++ ows q) bb := fun e => by have := e.1; omega
  rw [List.nodup_append] at hnd
  obtain ⟨m1, m2, m3⟩ := hnd
  unfold ows at m2 m3
  rw [List.nodup_append] at m2
  obtain ⟨m4, m5, m6⟩ := m2
  rw [List.nodup_append] at m5
  obtain ⟨m7, m8, m9⟩ := m5
  have hF1 : ∀ x, (Value.slice A1 n1 c1).ownBlock = some x → Fr (bb + 1) (ob (.slice (some ⟨g0, 0, none⟩) k co) ++ ows q) x := fun x hx => by
    refine ⟨(hl0.own x hx).1, fun e => ?_⟩
    rcases List.mem_append.1 e with e | e
    · exact m3 x e x (List.mem_append_left _ (mem_ob.2 hx)) rfl
    · exact m6 x (mem_ob.2 hx) x (List.mem_append_right _ e) rfl
  have hF2 : ∀ x, (Value.slice A2 n2 c2).ownBlock = some x → Fr (bb + 1) (ob (.slice (some ⟨g0, 0, none⟩) k co) ++ ows q) x := fun x hx => by
    refine ⟨(hk0.own x hx).1, fun e => ?_⟩
    rcases List.mem_append.1 e with e | e
    · exact m3 x e x (List.mem_append_right _ (List.mem_append_left _ (mem_ob.2 hx))) rfl
    · exact m9 x (mem_ob.2 hx) x e rfl
  have hLn := (lns_of_row hl0 (G := Fr (bb + 1) (ob (.slice (some ⟨g0, 0, none⟩) k co) ++ ows q)) hless hF1).agree (hmv.agree (fun x hx e => hbF (e ▸ hx)))
  have hKd := (kds_of_row hk0 (G := Fr (bb + 1) (ob (.slice (some ⟨g0, 0, none⟩) k co) ++ ows q)) hless hF2).agree (hmv.agree (fun x hx e => hbF (e ▸ hx)))
  rw [hrl, show 3 - k + 1 = 4 - k by omega] at hKd
  refine ⟨⟨World.cell?_setCell_same _ _ _ h.c0, ?_, ?_, ?_, ?_, fun i => by rw [World.frozen?_setCell]; exact h.fr i, ownsRow_setCell_below (ownsRow_pop hrq h.row) (a := ⟨bb, 0, none⟩) (by show bb < bb + 1; omega) _, hrl, ((Stk.weak (fun x _ hx => hless x hx) hr0)).below (by omega) hbF 0 _, ?_⟩, fun w' ha => ⟨A1, n1, c1, A2, n2, c2, rfl, hLn w' ha, hKd w' ha⟩⟩
  · rw [World.cell?_setCell_other (h := by simp)]; exact h.c1
  · rw [World.cell?_setCell_other (h := by simp)]; exact h.c2
  · rw [World.cell?_setCell_other (h := by simp)]; exact h.c3
  · rw [World.cell?_setCell_other (h := by simp)]; exact h.c4
  · rw [List.nodup_append]
    exact ⟨m1, m8, fun a ha b hb => m3 a ha b (List.mem_append_right _ (List.mem_append_right _ hb))⟩
/- .. and becomes a nested one of the component around it -/
theorem bs_kid {w w3 wA w9 : World} {bb k g0 co a b : Nat} {u t : Ln.Tr} {r : List Ln.Tr} {A1 A2 : Option Addr} {n1 c1 n2 c2 : Nat} {q : List Sl} {x0 x1 x2 : Value} {xs : List Value} (h : BS w bb (u :: r) (some ⟨g0, 0, none⟩) (k + 1) co (⟨A1, n1, c1, A2, n2, c2⟩ :: q)) {g c9 : Nat}
    (hxs : w.ownsRow (bb + 1) 31 3 (.slice A2 n2 c2) n2 xs) (hE : EEls w (Fr (bb + 1) (ob (.slice (some ⟨g0, 0, none⟩) (k + 1) co) ++ ows (⟨A1, n1, c1, A2, n2, c2⟩ :: q))) (Mt (3 - k)) (Value.slice A2 n2 c2).ownBlock xs u.kids) (hun : u.kids.length = n2)
    (hM : Fp (Fr (bb + 1) (ob (.slice (some ⟨g0, 0, none⟩) (k + 1) co) ++ ows (⟨A1, n1, c1, A2, n2, c2⟩ :: q))) w (Mt (3 - k) t [x0, x1, x2]))
    (hgo : (Value.slice A2 n2 c2).ownBlock = some g ∨ w.heap.size ≤ g) (hgw : w.grownBy w3 (Value.slice A2 n2 c2).ownBlock)
    (hA : w3.grownBy wA (some a)) (hB : wA.grownBy w9 (some b)) (hab : (a = g ∧ b = g0) ∨ (a = g0 ∧ b = g))
    (row9 : w9.ownsRow (bb + 1) 31 3 (.slice (some ⟨g, 0, none⟩) (n2 + 1) c9) (n2 + 1) (xs ++ [x0, x1, x2]))
    (open9 : w9.ownsRow (bb + 1) 31 3 (.slice (some ⟨g0, 0, none⟩) (k + 1) co) (k + 1) (rowc r q ++ [.string ⟨u.name.toArray⟩, .slice A1 n1 c1, .slice (some ⟨g, 0, none⟩) (n2 + 1) c9])) :
    BS w9 bb (.mk u.name u.lines (u.kids ++ [t]) :: r) (some ⟨g0, 0, none⟩) (k + 1) co (⟨A1, n1, c1, some ⟨g, 0, none⟩, n2 + 1, c9⟩ :: q) ∧ Below (bb + 1) w w9 := by
  have hown := h.own
  have hrl : r.length = k := by have := h.len; simpa using this
  have hnd : ((ob (.slice (some ⟨g0, 0, none⟩) (k + 1) co) ++ ob (Value.slice A1 n1 c1)) ++ (ob (Value.slice A2 n2 c2) ++ ows q)).Nodup := by rw [List.append_assoc]; exact h.nd
  have hOw : ob (.slice (some ⟨g0, 0, none⟩) (k + 1) co) ++ ows (⟨A1, n1, c1, A2, n2, c2⟩ :: q) = (ob (.slice (some ⟨g0, 0, none⟩) (k + 1) co) ++ ob (Value.slice A1 n1 c1)) ++ (ob (Value.slice A2 n2 c2) ++ ows q) := by rw [List.append_assoc]; rfl
  have hOw' : ob (.slice (some ⟨g0, 0, none⟩) (k + 1) co) ++ ows (⟨A1, n1, c1, some ⟨g, 0, none⟩, n2 + 1, c9⟩ :: q) = (ob (.slice (some ⟨g0, 0, none⟩) (k + 1) co) ++ ob (Value.slice A1 n1 c1)) ++ ([g] ++ ows q) := by rw [List.append_assoc]; rfl
  have hS : Swp w (bb + 1) (ob (.slice (some ⟨g0, 0, none⟩) (k + 1) co) ++ ob (Value.slice A1 n1 c1)) (Value.slice A2 n2 c2) g (ows q) := swp hnd (fun x hx => (hown x (by
    rw [hOw]
    rcases List.mem_append.1 hx with hx | hx
    · exact List.mem_append_left _ hx
    · exact List.mem_append_right _ (List.mem_append_right _ hx))).2) hgo
  have hg0mem : g0 ∈ ob (Value.slice (some ⟨g0, 0, none⟩) (k + 1) co) := mem_ob.2 rfl
  have hg0lt := (hown g0 (List.mem_append_left _ hg0mem)).1
  have hglt : bb + 1 ≤ g := by
    rcases hgo with e | e
    · exact (hown g (List.mem_append_right _ (List.mem_append_right _ (List.mem_append_left _ (mem_ob.2 e))))).1
    · have := h.lt; omega
  have hr2 : ∀ x, (Value.slice A2 n2 c2).ownBlock = some x → bb + 1 ≤ x := fun x hx => (hown x (List.mem_append_right _ (List.mem_append_right _ (List.mem_append_left _ (mem_ob.2 hx))))).1
  obtain ⟨hl0, _, hr0⟩ := h.stk
  rw [hOw] at hl0 hr0 hE hM
  have hfa : ∀ F : Nat → Prop, ¬ F g → ¬ F g0 → ¬ F a ∧ ¬ F b := fun F h1 h2 => by
    rcases hab with ⟨rfl, rfl⟩ | ⟨rfl, rfl⟩
    · exact ⟨h1, h2⟩
    · exact ⟨h2, h1⟩
  have hng0 : ¬ Fr (bb + 1) ((ob (.slice (some ⟨g0, 0, none⟩) (k + 1) co) ++ ob (Value.slice A1 n1 c1)) ++ (ob (Value.slice A2 n2 c2) ++ ows q)) g0 := fun e => e.2 (List.mem_append_left _ (List.mem_append_left _ hg0mem))
  have hfab := hfa (fun x => Fr (bb + 1) ((ob (.slice (some ⟨g0, 0, none⟩) (k + 1) co) ++ ob (Value.slice A1 n1 c1)) ++ (ob (Value.slice A2 n2 c2) ++ ows q)) x ∧ x ≠ g) (fun e => e.2 rfl) (fun e => hng0 e.1)
  have hnd9 := hS.nd
  have hnd9' := hnd9
  rw [List.append_assoc, List.nodup_append] at hnd9'
  obtain ⟨_, p2, p3⟩ := hnd9'
  rw [List.nodup_append] at p2
  obtain ⟨_, p4, p5⟩ := p2
  rw [List.singleton_append, List.nodup_cons] at p4
  have hgq : g ∉ ows q := p4.1
  have hg0q : g0 ∉ ows q := fun e => p3 g0 hg0mem g0 (List.mem_append_right _ (List.mem_append_right _ e)) rfl
  have hg1 : (Value.slice A1 n1 c1).ownBlock ≠ some g := fun e => p5 g (mem_ob.2 e) g (by simp) rfl
  have hg01 : (Value.slice A1 n1 c1).ownBlock ≠ some g0 := fun e => p3 g0 hg0mem g0 (List.mem_append_left _ (mem_ob.2 e)) rfl
  have hlst : ∀ x, x ∈ [a, b] → x ∉ ows q ∧ (Value.slice A1 n1 c1).ownBlock ≠ some x := fun x hx => by
    rcases hab with ⟨rfl, rfl⟩ | ⟨rfl, rfl⟩
    · simp at hx
      rcases hx with rfl | rfl
      · exact ⟨hgq, hg1⟩
      · exact ⟨hg0q, hg01⟩
    · simp at hx
      rcases hx with rfl | rfl
      · exact ⟨hg0q, hg01⟩
      · exact ⟨hgq, hg1⟩
  have hline := ((((hl0.weak (G := fun x => Fr (bb + 1) _ x ∧ x ≠ g) hS.away).kept hgw (fun x hx => ⟨fun e => (hS.old x hx).1 (List.mem_append_right _ (mem_ob.2 e)), fun e => (hS.old x hx).2.2 e.1⟩)).kept hA (fun x hx => by
      injection hx with hx; subst hx; exact ⟨(hlst _ (by simp)).2, hfab.1⟩)).kept hB (fun x hx => by
      injection hx with hx; subst hx; exact ⟨(hlst _ (by simp)).2, hfab.2⟩)).weak (G := Fr (bb + 1) ((ob (.slice (some ⟨g0, 0, none⟩) (k + 1) co) ++ ob (Value.slice A1 n1 c1)) ++ ([g] ++ ows q))) (fun x _ hx => hS.new x hx.1 hx.2)
  have hrest := ((((Stk.weak (G := fun x => Fr (bb + 1) _ x ∧ x ≠ g) hS.away hr0).kept hgw (fun x hx => ⟨(hS.old x hx).2.1, fun e => (hS.old x hx).2.2 e.1⟩)).kept hA (fun x hx => by
      injection hx with hx; subst hx; exact ⟨(hlst _ (by simp)).1, hfab.1⟩)).kept hB (fun x hx => by
      injection hx with hx; subst hx; exact ⟨(hlst _ (by simp)).1, hfab.2⟩)).weak (G := Fr (bb + 1) ((ob (.slice (some ⟨g0, 0, none⟩) (k + 1) co) ++ ob (Value.slice A1 n1 c1)) ++ ([g] ++ ows q))) (fun x _ hx => hS.new x hx.1 hx.2)
  have key : ∀ K : World → Prop, Fp (Fr (bb + 1) ((ob (.slice (some ⟨g0, 0, none⟩) (k + 1) co) ++ ob (Value.slice A1 n1 c1)) ++ (ob (Value.slice A2 n2 c2) ++ ows q))) w K → Fp (fun x => Fr (bb + 1) ((ob (.slice (some ⟨g0, 0, none⟩) (k + 1) co) ++ ob (Value.slice A1 n1 c1)) ++ ([g] ++ ows q)) x ∧ (Value.slice (some ⟨g, 0, none⟩) (n2 + 1) c9).ownBlock ≠ some x) w9 K := fun K hK => by
    have h1 := ((hK.weak (G := fun x => Fr (bb + 1) _ x ∧ x ≠ g) hS.away).agree (agree_grown hgw (fun x hx e => (hS.old x e.symm).2.2 hx.1)))
    have h2 := h1.agree (agree_grown hA (fun x hx e => by
      injection e with e
      exact hfab.1 (e ▸ hx)))
    have h3 := h2.agree (agree_grown hB (fun x hx e => by
      injection e with e
      exact hfab.2 (e ▸ hx)))
    exact h3.weak (fun x _ hx => ⟨hS.new x hx.1 hx.2, fun e => hx.2 (by have e2 : some g = some x := e; injection e2 with e2; exact e2.symm)⟩)
  have hkid : ERow w9 (bb + 1) 31 (Fr (bb + 1) ((ob (.slice (some ⟨g0, 0, none⟩) (k + 1) co) ++ ob (Value.slice A1 n1 c1)) ++ ([g] ++ ows q))) (Mt (3 - k)) (some ⟨g, 0, none⟩) (n2 + 1) c9 (u.kids ++ [t]) := by
    refine ⟨_, row9, by rw [List.length_append, hun]; rfl, fun j v hv => ?_⟩
    have hxl := hxs.1
    rcases Nat.lt_or_ge j n2 with hj | hj
    · rw [List.getElem?_append_left (by omega)] at hv
      obtain ⟨v', g1, g2, g3⟩ := hE j v hv
      exact ⟨v', g1, fun i hi => by rw [List.getElem?_append_left (by omega)]; exact g2 i hi, key _ (g3.weak (fun x _ hx => hx.1))⟩
    · have hj2 : j = n2 := by
        have := (List.getElem?_eq_some_iff.1 hv).1
        rw [List.length_append, List.length_singleton] at this
        omega
      subst hj2
      rw [List.getElem?_append_right (by omega), hun, Nat.sub_self] at hv
      have : t = v := by simpa using hv
      subst this
      exact ⟨[x0, x1, x2], rfl, fun i hi => by rw [List.getElem?_append_right (by omega), hxl, Nat.add_sub_cancel_left], key _ hM⟩
  have hab2 : bb + 1 ≤ a ∧ bb + 1 ≤ b := by rcases hab with ⟨rfl, rfl⟩ | ⟨rfl, rfl⟩ <;> exact ⟨by omega, by omega⟩
  have hb1 := grown_low (B := bb + 1) hgw h.lt hr2
  have hb2 := hb1.trans (grown_low (B := bb + 1) hA (by have := hb1.size; have := h.lt; omega) (fun x hx => by injection hx with hx; omega))
  have hb3 := hb2.trans (grown_low (B := bb + 1) hB (by have := hb2.size; have := h.lt; omega) (fun x hx => by injection hx with hx; omega))
  refine ⟨h.box hb3 open9 (by simp [hrl]) ?_ (by rw [hOw']; exact hS.nd), hb3⟩
  rw [hOw']
  refine ⟨hline, ?_, hrest⟩
  rw [hrl]
  exact hkid
set_option maxHeartbeats 8000000 in
set_option maxRecDepth 100000 in
theorem bend_any (bb k : Nat) (t : Ln.Tr) (r : List Ln.Tr) (Ao : Option Addr) (co : Nat) (s : Sl) (q : List Sl) (name : ByteArray) (w : World) (h : BS w bb (t :: r) Ao (k + 1) co (s :: q)) (hk3 : k ≤ 3) (hkl : ∀ u ∈ r, u.kids.length ≤ 100000) :
    Calls Tryd.prog 61 #[.pointer (some ⟨bb, 0, none⟩), .string name] w fun e w' => Below bb w w' ∧ ((t.name ≠ name.data.toList ∧ e = .returned (.int .i64 5)) ∨
      (t.name = name.data.toList ∧ e = .returned (.int .i64 0) ∧ ((r = [] ∧ ∃ s', BD w' bb t s') ∨ ∃ u r' Ao' no' co' ss', r = u :: r' ∧ BS w' bb (.mk u.name u.lines (u.kids ++ [t]) :: r') Ao' no' co' ss'))) := by
  obtain ⟨A1, n1, c1, A2, n2, c2⟩ := s
  obtain ⟨g0, cap0, hv0, hbb0, hlt0⟩ := h.row.form (by omega)
  injection hv0 with hA hn hc
  subst hA hc
  clear hn
  have hrl : r.length = k := by have := h.len; simpa using this
  have hsl := h.stk.len
  have hrq : (rowc r q).length = k * 3 := by rw [rowc_len (by simpa using hsl), hrl]
  obtain ⟨y0', y1', y2', yf, _, _⟩ := row_cells (n := k) hrq h.row
  have y0 : w.cell? ⟨g0, k * 3, none⟩ = some (.string ⟨t.name.toArray⟩) := y0'
  have y1 : w.cell? ⟨g0, k * 3 + 1, none⟩ = some (.slice A1 n1 c1) := y1'
  have y2 : w.cell? ⟨g0, k * 3 + 2, none⟩ = some (.slice A2 n2 c2) := y2'
  have d0 := h.c0
  have hblt := h.lt
  have hq : ((ByteArray.mk t.name.toArray).toList == name.toList) = decide (t.name = name.data.toList) := str_eq (by rw [decide_eq_true_iff])
  have hkc : (k : Int) ≤ (co : Int) := by
    have : k + 1 ≤ co := by
      rcases h.row.2 with ⟨hn, _⟩ | ⟨g', cap, cur, hv, _, _, hc, _⟩
      · cases hn
      · injection hv with _ _ h3; omega
    omega
  clear y0' y1' y2'
  obtain ⟨tn, htn⟩ : ∃ tn, tn = ByteArray.mk t.name.toArray := ⟨_, rfl⟩
  rw [← htn] at y0 hq
  have HTN := Lib.hid htn
  clear htn
  have hg0 : Gr w (w.alloc (.cells #[.string tn, .slice A1 n1 c1, .slice A2 n2 c2] 31)) := (Gr.refl w).allocO _
  have hx0 := Bx3.new w (.string tn) (.slice A1 n1 c1) (.slice A2 n2 c2) 31
  by_cases hnm : t.name = name.data.toList
  · rw [decide_eq_true hnm] at hq
    have HNM := Lib.hid hnm
    clear hnm
    have f0 : (w.alloc (.cells #[.string tn, .slice A1 n1 c1, .slice A2 n2 c2] 31)).frozen? ⟨bb, 0, none⟩ = false := (hg0.frozen hblt).trans (h.fr 0)
    have d0A := gr_cell0 hg0 d0
    obtain ⟨hpop0, hMt0⟩ := bs_pop h hk3
    have hgA : Gr (w.setCell ⟨bb, 0, none⟩ (.slice (some ⟨g0, 0, none⟩) k co)) ((w.setCell ⟨bb, 0, none⟩ (.slice (some ⟨g0, 0, none⟩) k co)).alloc (.cells #[.string tn, .slice A1 n1 c1, .slice A2 n2 c2] 31)) := (Gr.refl _).allocO _
    have hpop := hpop0.gr hgA
    have hMt := hMt0.gr hgA
    have hz : (w.setCell ⟨bb, 0, none⟩ (.slice (some ⟨g0, 0, none⟩) k co)).heap.size = w.heap.size := by simp
    have hx1 := Bx3.new (w.setCell ⟨bb, 0, none⟩ (.slice (some ⟨g0, 0, none⟩) k co)) (.string tn) (.slice A1 n1 c1) (.slice A2 n2 c2) 31
    rw [hz] at hx1
    have hblA : Below bb w ((w.setCell ⟨bb, 0, none⟩ (.slice (some ⟨g0, 0, none⟩) k co)).alloc (.cells #[.string tn, .slice A1 n1 c1, .slice A2 n2 c2] 31)) := ((Below.refl bb w).setCell (p := ⟨bb, 0, none⟩) (Nat.le_refl _) _).alloc (by omega) _
    clear hpop0 hMt0 hgA hz
    cases r with
    | nil =>
      obtain rfl : k = 0 := by rw [← hrl]; rfl
      go_enter Tryd.func61, Tryd.ntmps61
      go_wp2_with fail
      generalize ((w.setCell ⟨bb, 0, none⟩ (.slice (some ⟨g0, 0, none⟩) 0 co)).alloc (.cells #[.string tn, .slice A1 n1 c1, .slice A2 n2 c2] 31)) = WA at *
      have b0 := hx1.c0
      have b1 := hx1.c1
      have b2 := hx1.c2
      have hwsz : w.heap.size ≠ bb := by omega
      have hS : (fun w' : World => w'.cell? ⟨w.heap.size, 0, none⟩ = some (.string tn) ∧ w'.cell? ⟨w.heap.size, 1, none⟩ = some (.slice A1 n1 c1) ∧ w'.cell? ⟨w.heap.size, 2, none⟩ = some (.slice A2 n2 c2)) WA.drew := ⟨b0, b1, b2⟩
      refine wp_region_last 8 9 (fun w' : World => w'.cell? ⟨w.heap.size, 0, none⟩ = some (.string tn) ∧ w'.cell? ⟨w.heap.size, 1, none⟩ = some (.slice A1 n1 c1) ∧ w'.cell? ⟨w.heap.size, 2, none⟩ = some (.slice A2 n2 c2)) (by kernel_rfl) rfl ?_
      have hgD : Gr WA WA.drew := (Gr.refl WA).drew
      generalize WA.drew = WD at *
      refine Wk.take (i := 0) (v := ?_) (at_lit rfl) (at_lit rfl) (by kernel_rfl) (by kernel_rfl) (by kernel_rfl) (by kernel_rfl) rfl (fun _ _ _ h => h) ?_ hS ?_
      rotate_left 1
      · intro w' hSw
        obtain ⟨s0, s1, s2⟩ := hSw
        go_simp
        first | done | rfl
      try simp only [Act.put, List.setIfInBounds_toArray, List.set_cons_zero, List.set_cons_succ]
      refine Wk.take (i := 1) (v := ?_) (at_lit rfl) (at_lit rfl) (by kernel_rfl) (by kernel_rfl) (by kernel_rfl) (by kernel_rfl) rfl (fun _ _ _ h => h) ?_ hS ?_
      rotate_left 1
      · intro w' hSw
        obtain ⟨s0, s1, s2⟩ := hSw
        go_simp
        first | done | rfl
      try simp only [Act.put, List.setIfInBounds_toArray, List.set_cons_zero, List.set_cons_succ]
      refine Wk.take (i := 2) (v := ?_) (at_lit rfl) (at_lit rfl) (by kernel_rfl) (by kernel_rfl) (by kernel_rfl) (by kernel_rfl) rfl (fun _ _ _ h => h) ?_ hS ?_
      rotate_left 1
      · intro w' hSw
        obtain ⟨s0, s1, s2⟩ := hSw
        go_simp
        first | done | rfl
      try simp only [Act.put, List.setIfInBounds_toArray, List.set_cons_zero, List.set_cons_succ]
      refine Wk.take (i := 3) (v := ?_) (at_lit rfl) (at_lit rfl) (by kernel_rfl) (by kernel_rfl) (by kernel_rfl) (by kernel_rfl) rfl (fun _ _ _ h => h) ?_ hS ?_
      rotate_left 1
      · intro w' hSw
        obtain ⟨s0, s1, s2⟩ := hSw
        go_simp
        first | done | rfl
      try simp only [Act.put, List.setIfInBounds_toArray, List.set_cons_zero, List.set_cons_succ]
      refine Wk.take (i := 4) (v := ?_) (at_lit rfl) (at_lit rfl) (by kernel_rfl) (by kernel_rfl) (by kernel_rfl) (by kernel_rfl) rfl (fun _ _ _ h => h) ?_ hS ?_
      rotate_left 1
      · intro w' hSw
        obtain ⟨s0, s1, s2⟩ := hSw
        go_simp
        first | done | rfl
      try simp only [Act.put, List.setIfInBounds_toArray, List.set_cons_zero, List.set_cons_succ]
      have hpD := hpop.gr hgD
      have hMD := hMt.gr hgD
      have p1 := hpD.c1
      have pf1 := hpD.fr 1
      have pf2 := hpD.fr 2
      have pf3 := hpD.fr 3
      have pf4 := hpD.fr 4
      refine Wk.one (i := 5) (at_lit rfl) (by kernel_rfl) (fun K hK => ?_)
      go_simp
      have hm1 := Mv.set bb WD 1 (.bool true)
      have hS : (fun w' : World => w'.cell? ⟨w.heap.size, 0, none⟩ = some (.string tn) ∧ w'.cell? ⟨w.heap.size, 1, none⟩ = some (.slice A1 n1 c1) ∧ w'.cell? ⟨w.heap.size, 2, none⟩ = some (.slice A2 n2 c2)) (WD.setCell ⟨bb, 1, none⟩ (.bool true)) := ⟨grown_cell2 hm1 (gr_cell hgD b0) (by simp; omega), grown_cell2 hm1 (gr_cell hgD b1) (by simp; omega), grown_cell2 hm1 (gr_cell hgD b2) (by simp; omega)⟩
      refine hK _ _ (fun _ => hS) ?_
      clear hK K
      try simp only [Act.put, List.setIfInBounds_toArray, List.set_cons_zero, List.set_cons_succ]
      refine Wk.one (i := 6) (at_lit rfl) (by kernel_rfl) (fun K hK => ?_)
      go_simp
      refine hK _ _ (fun _ => hS) ?_
      clear hK K
      try simp only [Act.put, List.setIfInBounds_toArray, List.set_cons_zero, List.set_cons_succ]
      refine Wk.take (i := 7) (v := ?_) (at_lit rfl) (at_lit rfl) (by kernel_rfl) (by kernel_rfl) (by kernel_rfl) (by kernel_rfl) rfl (fun _ _ _ h => h) ?_ hS ?_
      rotate_left 1
      · intro w' hSw
        obtain ⟨s0, s1, s2⟩ := hSw
        go_simp
        first | done | rfl
      try simp only [Act.put, List.setIfInBounds_toArray, List.set_cons_zero, List.set_cons_succ]
      have j2 : (WD.setCell ⟨bb, 1, none⟩ (.bool true)).cell? ⟨bb, 2, none⟩ = some (.string ⟨#[]⟩) := by rw [World.cell?_setCell_other (h := by simp)]; exact hpD.c2
      have j3 : (WD.setCell ⟨bb, 1, none⟩ (.bool true)).cell? ⟨bb, 3, none⟩ = some (.slice none 0 0) := by rw [World.cell?_setCell_other (h := by simp)]; exact hpD.c3
      have j4 : (WD.setCell ⟨bb, 1, none⟩ (.bool true)).cell? ⟨bb, 4, none⟩ = some (.slice none 0 0) := by rw [World.cell?_setCell_other (h := by simp)]; exact hpD.c4
      have j1 := World.cell?_setCell_same WD ⟨bb, 1, none⟩ (.bool true) p1
      refine Wk.one (i := 8) (at_lit rfl) (by kernel_rfl) (fun K hK => ?_)
      go_simp
      refine hK _ _ (fun h => absurd rfl h) ?_
      clear hK K
      refine Wk.done (by kernel_rfl) ?_
      have hm2 := ((((Mv.refl bb WD).trans (Mv.set bb _ 1 (.bool true))).trans (Mv.set bb _ 2 (.string tn))).trans (Mv.set bb _ 3 (.slice A1 n1 c1))).trans (Mv.set bb _ 4 (.slice A2 n2 c2))
      have hMW := (hMD.agree (hm2.agree (fun x hx => by have := hx.1; omega))).weak (G := fun x => bb + 1 ≤ x) (fun x _ hx => hx.1)
      have hBD : BD ((((WD.setCell ⟨bb, 1, none⟩ (.bool true)).setCell ⟨bb, 2, none⟩ (.string tn)).setCell ⟨bb, 3, none⟩ (.slice A1 n1 c1)).setCell ⟨bb, 4, none⟩ (.slice A2 n2 c2)) bb t ⟨A1, n1, c1, A2, n2, c2⟩ := by
        refine ⟨?_, ?_, ?_, ?_, fun w' ha => (hMW w' ha).parts.1, fun w' ha => (hMW w' ha).parts.2⟩
        · rw [World.cell?_setCell_other (h := by simp), World.cell?_setCell_other (h := by simp), World.cell?_setCell_other (h := by simp)]; exact j1
        · rw [World.cell?_setCell_other (h := by simp), World.cell?_setCell_other (h := by simp), World.cell?_setCell_same _ _ _ j2, HTN.out]
        · rw [World.cell?_setCell_other (h := by simp)]; refine World.cell?_setCell_same _ _ _ (u := .slice none 0 0) ?_; rw [World.cell?_setCell_other (h := by simp)]; exact j3
        · refine World.cell?_setCell_same _ _ _ (u := .slice none 0 0) ?_; rw [World.cell?_setCell_other (h := by simp), World.cell?_setCell_other (h := by simp)]; exact j4
      have hbl9 : Below bb w ((((WD.setCell ⟨bb, 1, none⟩ (.bool true)).setCell ⟨bb, 2, none⟩ (.string tn)).setCell ⟨bb, 3, none⟩ (.slice A1 n1 c1)).setCell ⟨bb, 4, none⟩ (.slice A2 n2 c2)) := (hblA.trans (hgD.low (B := bb) (by have := hpop.lt; omega))).trans (hm2.low (Nat.le_refl _) (by have := hpD.lt; omega))
      generalize World.setCell (World.setCell (World.setCell (World.setCell _ _ _) _ _) _ _) _ _ = W9 at *
      go_wp2
      go_ret
      exact ⟨hbl9, .inr ⟨HNM.out, rfl, _, hBD⟩⟩
    | cons u r =>
      obtain ⟨k, rfl⟩ : ∃ k', k = k' + 1 := ⟨r.length, by rw [← hrl]; rfl⟩
      have hrl2 : r.length = k := by simpa using hrl
      cases q with
      | nil => have := hpop.stk.len; simp at this
      | cons s2 q =>
      obtain ⟨B1, m1, e1, B2, m2, e2⟩ := s2
      have hrq2 : (rowc r q).length = k * 3 := by rw [rowc_len (by have := hpop.stk.len; simpa using this), hrl2]
      obtain ⟨v0, v1, v2', vf, _, _⟩ := row_cells (n := k) hrq2 hpop.row
      have v2 : ((w.setCell ⟨bb, 0, none⟩ (.slice (some ⟨g0, 0, none⟩) (k + 1) co)).alloc (.cells #[.string tn, .slice A1 n1 c1, .slice A2 n2 c2] 31)).cell? ⟨g0, k * 3 + 2, none⟩ = some (.slice B2 m2 e2) := v2'
      have hk1 : ((k : Int) + 1 == 0) = false := by rw [beq_eq_false_iff_ne]; omega
      have c0A := hpop.c0
      have hukl := hkl u (by simp)
      have hkl1 : (k : Int) < (k : Int) + 1 := by omega
      clear v0 v1 v2'
      go_enter Tryd.func61, Tryd.ntmps61
      go_wp2_with fail
      generalize ((w.setCell ⟨bb, 0, none⟩ (.slice (some ⟨g0, 0, none⟩) (k + 1) co)).alloc (.cells #[.string tn, .slice A1 n1 c1, .slice A2 n2 c2] 31)) = WA at *
      have b0 := hx1.c0
      have b1 := hx1.c1
      have b2 := hx1.c2
      have hS : (fun w' : World => w'.cell? ⟨g0, k * 3 + 2, none⟩ = some (.slice B2 m2 e2) ∧ w'.cell? ⟨w.heap.size, 0, none⟩ = some (.string tn) ∧ w'.cell? ⟨w.heap.size, 1, none⟩ = some (.slice A1 n1 c1) ∧ w'.cell? ⟨w.heap.size, 2, none⟩ = some (.slice A2 n2 c2)) WA.drew := ⟨v2, b0, b1, b2⟩
      refine wp_region_ex (fun i => Nat.ble 8 i) 13 (fun w' : World => w'.cell? ⟨g0, k * 3 + 2, none⟩ = some (.slice B2 m2 e2) ∧ w'.cell? ⟨w.heap.size, 0, none⟩ = some (.string tn) ∧ w'.cell? ⟨w.heap.size, 1, none⟩ = some (.slice A1 n1 c1) ∧ w'.cell? ⟨w.heap.size, 2, none⟩ = some (.slice A2 n2 c2)) (by kernel_rfl) rfl ?_
      refine Wx.take (i := 0) (v := ?_) (at_lit rfl) (by kernel_rfl) (by kernel_rfl) (by kernel_rfl) (by kernel_rfl) rfl (fun _ _ _ h => h) ?_ hS ?_
      rotate_left 1
      · intro w' hSw
        obtain ⟨s0, s1, s2, s3⟩ := hSw
        go_simp
        first | done | rfl
      try simp only [Act.put, List.setIfInBounds_toArray, List.set_cons_zero, List.set_cons_succ]
      refine Wx.take (i := 1) (v := ?_) (at_lit rfl) (by kernel_rfl) (by kernel_rfl) (by kernel_rfl) (by kernel_rfl) rfl (fun _ _ _ h => h) ?_ hS ?_
      rotate_left 1
      · intro w' hSw
        obtain ⟨s0, s1, s2, s3⟩ := hSw
        go_simp
        first | done | rfl
      try simp only [Act.put, List.setIfInBounds_toArray, List.set_cons_zero, List.set_cons_succ]
      refine Wx.take (i := 2) (v := ?_) (at_lit rfl) (by kernel_rfl) (by kernel_rfl) (by kernel_rfl) (by kernel_rfl) rfl (fun _ _ _ h => h) ?_ hS ?_
      rotate_left 1
      · intro w' hSw
        obtain ⟨s0, s1, s2, s3⟩ := hSw
        go_simp
        first | done | rfl
      try simp only [Act.put, List.setIfInBounds_toArray, List.set_cons_zero, List.set_cons_succ]
      refine Wx.take (i := 3) (v := ?_) (at_lit rfl) (by kernel_rfl) (by kernel_rfl) (by kernel_rfl) (by kernel_rfl) rfl (fun _ _ _ h => h) ?_ hS ?_
      rotate_left 1
      · intro w' hSw
        obtain ⟨s0, s1, s2, s3⟩ := hSw
        go_simp
        first | done | rfl
      try simp only [Act.put, List.setIfInBounds_toArray, List.set_cons_zero, List.set_cons_succ]
      refine Wx.take (i := 4) (v := ?_) (at_lit rfl) (by kernel_rfl) (by kernel_rfl) (by kernel_rfl) (by kernel_rfl) rfl (fun _ _ _ h => h) ?_ hS ?_
      rotate_left 1
      · intro w' hSw
        obtain ⟨s0, s1, s2, s3⟩ := hSw
        go_simp
        first | done | rfl
      try simp only [Act.put, List.setIfInBounds_toArray, List.set_cons_zero, List.set_cons_succ]
      refine Wx.take (i := 5) (v := ?_) (at_lit rfl) (by kernel_rfl) (by kernel_rfl) (by kernel_rfl) (by kernel_rfl) rfl (fun _ _ _ h => h) ?_ hS ?_
      rotate_left 1
      · intro w' hSw
        obtain ⟨s0, s1, s2, s3⟩ := hSw
        go_simp
        first | done | rfl
      try simp only [Act.put, List.setIfInBounds_toArray, List.set_cons_zero, List.set_cons_succ]
      have hgD : Gr WA WA.drew := (Gr.refl WA).drew
      have hpD := hpop.gr hgD
      have hMD := hMt.gr hgD
      obtain ⟨xs, hx1r, hx2r, hx3r⟩ := hpD.stk.2.1
      have hxl := hx1r.1
      have hm2l : m2 ≤ 100000 := by have hx2' : u.kids.length = m2 := hx2r; rw [← hx2']; exact hukl
      have hgC : Gr WA.drew (WA.drew.alloc (.cells #[.string ⟨#[]⟩, .slice none 0 0, .slice none 0 0] 31)) := (Gr.refl _).allocO _
      refine Wx.one (i := 6) (at_lit rfl) (by kernel_rfl) (fun K hK => ?_)
      go_simp
      refine hK _ _ (fun _ => ⟨gr_cell hgC v2, gr_cell hgC b0, gr_cell hgC b1, gr_cell hgC b2⟩) ?_
      clear hK K
      try simp only [Act.put, List.setIfInBounds_toArray, List.set_cons_zero, List.set_cons_succ]
      refine Wx.one (i := 7) (at_lit rfl) (by kernel_rfl) (fun K hK => ?_)
      refine st_raw WA.drew (by rfl) (.tmp 53) (.tmp 56) 29 31 _ 64 Tryd.underlying29 info_tree rfl (by rfl) (bb + 1) B2 m2 e2 xs (by rfl) hx1r (.string ⟨#[]⟩) (.slice none 0 0) (.slice none 0 0) rfl rfl rfl (by rfl) (by omega) (by omega) hpD.lt ?_
      intro g c9 w3 hrow3 hgo hgw
      have hown := hpD.own
      have hnd := hpD.nd
      have hng0 : (Value.slice B2 m2 e2).ownBlock ≠ some g0 := fun e => by
        rw [List.nodup_append] at hnd
        exact hnd.2.2 g0 (mem_ob.2 rfl) g0 (List.mem_append_right _ (List.mem_append_left _ (mem_ob.2 e))) rfl
      have hnw : (Value.slice B2 m2 e2).ownBlock ≠ some w.heap.size := fun e => by
        have h1 := (h.own w.heap.size (List.mem_append_right _ (List.mem_append_right _ (List.mem_append_right _ (List.mem_append_right _ (List.mem_append_left _ (mem_ob.2 e))))))).2
        omega
      have hgne : g ≠ g0 := fun e => by
        subst e
        rcases hgo with e | e
        · exact hng0 e
        · have := (hown g (List.mem_append_left _ (mem_ob.2 rfl))).2; omega
      have t0 := grown_cell2 hgw v2 hng0
      have t1 := grown_cell2 hgw b0 hnw
      have t2 := grown_cell2 hgw b1 hnw
      have t3 := grown_cell2 hgw b2 hnw
      have tf : w3.frozen? ⟨g0, k * 3 + 2, none⟩ = false := (grown_frozen hgw (World.block_lt_of_cell? _ _ v2) hng0).trans (vf _)
      obtain ⟨z0, z1, z2, hfz, hgB, hglt⟩ := row_cells hxl hrow3
      have fz0 := hfz (m2 * 3)
      have fz1 := hfz (m2 * 3 + 1)
      have fz2 := hfz (m2 * 3 + 2)
      have hkc2 : (m2 : Int) < (m2 : Int) + 1 := by omega
      have hopen3 : w3.ownsRow (bb + 1) 31 3 (.slice (some ⟨g0, 0, none⟩) (k + 1) co) (k + 1) (rowc r q ++ [.string ⟨u.name.toArray⟩, .slice B1 m1 e1, .slice B2 m2 e2]) := World.ownsRow.kept hpD.row hgw (.inr (fun e => hng0 e.symm))
      have hMD2 : Fp (Fr (bb + 1) (ob (.slice (some ⟨g0, 0, none⟩) (k + 1) co) ++ ows (⟨B1, m1, e1, B2, m2, e2⟩ :: q))) WA.drew (Mt (3 - k) t [.string tn, .slice A1 n1 c1, .slice A2 n2 c2]) := by rw [HTN.out]; rw [show 4 - (k + 1) = 3 - k by omega] at hMD; exact hMD
      rw [hrl2] at hx3r
      refine hK _ _ (fun _ => ⟨t0, t1, t2, t3⟩) ?_
      clear hK K
      try simp only [Act.put, List.setIfInBounds_toArray, List.set_cons_zero, List.set_cons_succ]
      refine Wx.takeP (i := 8) (v := ?_) (at_lit rfl) (by rfl) (by kernel_rfl) (by kernel_rfl) (by kernel_rfl) rfl (fun _ _ _ h => h) ?_ ?_
      rotate_left 1
      · intro w'
        go_simp
        first | done | rfl
      try simp only [Act.put, List.setIfInBounds_toArray, List.set_cons_zero, List.set_cons_succ]
      refine Wx.takeP (i := 10) (v := ?_) (at_lit rfl) (by rfl) (by kernel_rfl) (by kernel_rfl) (by kernel_rfl) rfl (fun _ _ _ h => h) ?_ ?_
      rotate_left 1
      · intro w'
        go_simp
        first | done | rfl
      try simp only [Act.put, List.setIfInBounds_toArray, List.set_cons_zero, List.set_cons_succ]
      refine Wx.takeP (i := 11) (v := ?_) (at_lit rfl) (by rfl) (by kernel_rfl) (by kernel_rfl) (by kernel_rfl) rfl (fun _ _ _ h => h) ?_ ?_
      rotate_left 1
      · intro w'
        go_simp
        first | done | rfl
      try simp only [Act.put, List.setIfInBounds_toArray, List.set_cons_zero, List.set_cons_succ]
      refine Wx.two (i := 9) (j := 12) (at_lit rfl) (at_lit rfl) (by kernel_rfl) (fun K hK => ?_) (fun K hK => ?_)
      · obtain ⟨r1, r2⟩ := row_set3 hxl hrow3 (.string tn) (.slice A1 n1 c1) (.slice A2 n2 c2)
        have q0 : (((w3.setCell ⟨g, m2 * 3, none⟩ (.string tn)).setCell ⟨g, m2 * 3 + 1, none⟩ (.slice A1 n1 c1)).setCell ⟨g, m2 * 3 + 2, none⟩ (.slice A2 n2 c2)).cell? ⟨g0, k * 3 + 2, none⟩ = some (.slice B2 m2 e2) := (set3_cell (m := m2 * 3) (Ne.symm hgne) _).trans t0
        have q1 : (((w3.setCell ⟨g, m2 * 3, none⟩ (.string tn)).setCell ⟨g, m2 * 3 + 1, none⟩ (.slice A1 n1 c1)).setCell ⟨g, m2 * 3 + 2, none⟩ (.slice A2 n2 c2)).frozen? ⟨g0, k * 3 + 2, none⟩ = false := (set3_frozen (m := m2 * 3) _).trans tf
        go_simp
        refine hK _ _ (fun h => by cases h) ?_
        clear hK K
        try simp only [Act.put, List.setIfInBounds_toArray, List.set_cons_zero, List.set_cons_succ]
        refine Wx.one (i := 12) (at_lit rfl) (by kernel_rfl) (fun K hK => ?_)
        go_simp
        refine hK _ _ (fun h => by cases h) ?_
        clear hK K
        try simp only [Act.put, List.setIfInBounds_toArray, List.set_cons_zero, List.set_cons_succ]
        refine Wx.done (by kernel_rfl) ?_
        have hopA : (((w3.setCell ⟨g, m2 * 3, none⟩ (.string tn)).setCell ⟨g, m2 * 3 + 1, none⟩ (.slice A1 n1 c1)).setCell ⟨g, m2 * 3 + 2, none⟩ (.slice A2 n2 c2)).ownsRow (bb + 1) 31 3 (.slice (some ⟨g0, 0, none⟩) (k + 1) co) (k + 1) (rowc r q ++ [.string ⟨u.name.toArray⟩, .slice B1 m1 e1, .slice B2 m2 e2]) := World.ownsRow.kept hopen3 r2 (.inr (fun e => hgne (by have e2 : some g0 = some g := e; injection e2 with e2; exact e2.symm)))
        obtain ⟨o1, o2⟩ := World.ownsRow.stored hopA (k * 3 + 2) (.slice (some ⟨g, 0, none⟩) (m2 + 1) c9)
        rw [set_at2 hrq2] at o1
        have r1' : ((((w3.setCell ⟨g, m2 * 3, none⟩ (.string tn)).setCell ⟨g, m2 * 3 + 1, none⟩ (.slice A1 n1 c1)).setCell ⟨g, m2 * 3 + 2, none⟩ (.slice A2 n2 c2)).setCell ⟨g0, k * 3 + 2, none⟩ (.slice (some ⟨g, 0, none⟩) (m2 + 1) c9)).ownsRow (bb + 1) 31 3 (.slice (some ⟨g, 0, none⟩) (m2 + 1) c9) (m2 + 1) (xs ++ [.string tn, .slice A1 n1 c1, .slice A2 n2 c2]) := World.ownsRow.kept r1 o2 (.inr (fun e => hgne (by have e2 : some g = some g0 := e; injection e2)))
        obtain ⟨hbs, hbl⟩ := bs_kid hpD hx1r hx3r hx2r hMD2 hgo hgw r2 o2 (.inl ⟨rfl, rfl⟩) r1' o1
        have hbl9 := (hblA.trans (hgD.low (B := bb) (by have := hpop.lt; omega))).trans (hbl.mono (show bb ≤ bb + 1 by omega))
        generalize World.setCell (World.setCell (World.setCell (World.setCell _ _ _) _ _) _ _) _ _ = W9 at *
        go_wp2
        go_ret
        exact ⟨hbl9, .inr ⟨HNM.out, rfl, u, r, ⟨rfl, rfl⟩, _, _, _, _, hbs⟩⟩
      · obtain ⟨o1, o2⟩ := World.ownsRow.stored hopen3 (k * 3 + 2) (.slice (some ⟨g, 0, none⟩) (m2 + 1) c9)
        rw [set_at2 hrq2] at o1
        have hrowB : (w3.setCell ⟨g0, k * 3 + 2, none⟩ (.slice (some ⟨g, 0, none⟩) (m2 + 1) c9)).ownsRow (bb + 1) 31 3 (.slice (some ⟨g, 0, none⟩) (m2 + 1) c9) (m2 + 1) (xs ++ [.string ⟨#[]⟩, .slice none 0 0, .slice none 0 0]) := World.ownsRow.kept hrow3 o2 (.inr (fun e => hgne (by have e2 : some g = some g0 := e; injection e2)))
        obtain ⟨r1, r2⟩ := row_set3 hxl hrowB (.string tn) (.slice A1 n1 c1) (.slice A2 n2 c2)
        obtain ⟨x0, x1, x2, xf, _, _⟩ := row_cells hxl hrowB
        have xf0 := xf (m2 * 3)
        have xf1 := xf (m2 * 3 + 1)
        have xf2 := xf (m2 * 3 + 2)
        go_simp
        refine hK _ _ (fun h => by cases h) ?_
        clear hK K
        try simp only [Act.put, List.setIfInBounds_toArray, List.set_cons_zero, List.set_cons_succ]
        refine Wx.one (i := 9) (at_lit rfl) (by kernel_rfl) (fun K hK => ?_)
        go_simp
        refine hK _ _ (fun h => by cases h) ?_
        clear hK K
        try simp only [Act.put, List.setIfInBounds_toArray, List.set_cons_zero, List.set_cons_succ]
        refine Wx.done (by kernel_rfl) ?_
        have o1' := World.ownsRow.kept o1 r2 (.inr (fun e => hgne (by have e2 : some g0 = some g := e; injection e2 with e2; exact e2.symm)))
        obtain ⟨hbs, hbl⟩ := bs_kid hpD hx1r hx3r hx2r hMD2 hgo hgw o2 r2 (.inr ⟨rfl, rfl⟩) r1 o1'
        have hbl9 := (hblA.trans (hgD.low (B := bb) (by have := hpop.lt; omega))).trans (hbl.mono (show bb ≤ bb + 1 by omega))
        unfold set3 at hbs hbl9
        generalize World.setCell (World.setCell (World.setCell (World.setCell _ _ _) _ _) _ _) _ _ = W9 at *
        go_wp2
        go_ret
        exact ⟨hbl9, .inr ⟨HNM.out, rfl, u, r, ⟨rfl, rfl⟩, _, _, _, _, hbs⟩⟩
  · rw [decide_eq_false hnm] at hq
    have HNM := Lib.hid hnm
    clear hnm
    go_enter Tryd.func61, Tryd.ntmps61
    go_wp2
    go_ret
    exact ⟨hg0.low (by omega), .inl ⟨HNM.out, rfl⟩⟩
end Go.Proofs.YtbfngdpdgmgfpaaDoor
namespace Go.Proofs.YtbfngdpdgmgfpaaDoor
open Go.RowKit

def AdP (bb : Nat) (o : List Ln.Tr) (l : Ln.Li) (e : Ending) (w' : World) : Prop :=
  (∃ o', Ln.stp o l = some (.op o') ∧ e = .returned (.int .i64 0) ∧ ∃ Ao no co ss, BS w' bb o' Ao no co ss) ∨ (∃ t, Ln.stp o l = some (.done t) ∧ e = .returned (.int .i64 0) ∧ ∃ s, BD w' bb t s) ∨ (Ln.stp o l = none ∧ ∃ E : Int, e = .returned (.int .i64 E) ∧ (E != 0) = true)
set_option maxHeartbeats 8000000 in
set_option maxRecDepth 100000 in
theorem badd_any (bb : Nat) (o : List Ln.Tr) (Ao : Option Addr) (no co : Nat) (ss : List Sl) (l : Ln.Li) (A : Option Addr) (n c : Nat) (w : World) (h : BS w bb o Ao no co ss) (hP : Fp (Fr (bb + 1) (ob (.slice Ao no co) ++ ows ss)) w (fun v => Pars v v.heap.size A n l.ps)) (hnc : n ≤ c) (hvl : l.value.length ≤ 2000) (ho4 : o.length ≤ 4) (hsz : ∀ t ∈ o, t.lines.length ≤ 100000 ∧ t.kids.length ≤ 100000) :
    Calls Tryd.prog 36 #[.pointer (some ⟨bb, 0, none⟩), .agg #[.string ⟨l.name.toArray⟩, .slice A n c, .string ⟨l.value.toArray⟩]] w fun e w' => Below bb w w' ∧ AdP bb o l e w' := by
  have hg0 : Gr w (w.alloc (.cells #[.string ⟨l.name.toArray⟩, .slice A n c, .string ⟨l.value.toArray⟩] 48)) := (Gr.refl w).allocO _
  have hx0 := Bx3.new w (.string ⟨l.name.toArray⟩) (.slice A n c) (.string ⟨l.value.toArray⟩) 48
  have hBA := h.gr hg0
  have hPA := hP.gr hg0
  have hblt := h.lt
  have hn : l.ps.length = n := hP.now.1
  have cU := tupper_any ⟨l.value.toArray⟩ (w.alloc (.cells #[.string ⟨l.name.toArray⟩, .slice A n c, .string ⟨l.value.toArray⟩] 48)) (by rw [size_mk]; omega)
  have eu : (ByteArray.mk l.value.toArray).data.toList = l.value := rfl
  rw [eu] at cU
  have cN := fun w => lname_any ⟨(Ln.upp l.value).toArray⟩ w
  have en : (ByteArray.mk (Ln.upp l.value).toArray).data.toList = Ln.upp l.value := rfl
  rw [en] at cN
  have cB := fun w1 (h1 : Gr w w1) => bbegin_any bb o Ao no co ss ⟨(Ln.upp l.value).toArray⟩ w1 (h.gr h1) (by rw [← h.len]; exact ho4)
  rw [en] at cB
  have hq : ∀ x : List UInt8, ((ByteArray.mk l.name.toArray).toList == x) = decide (l.name = x) := fun x => by rw [Lib.toList_data, Bool.eq_iff_iff, beq_iff_eq, decide_eq_true_iff]
  have hq1 : ((ByteArray.mk l.name.toArray).toList == [66, 69, 71, 73, 78]) = decide (l.name = Ln.bg) := hq _
  have hq2 : ((ByteArray.mk l.name.toArray).toList == [69, 78, 68]) = decide (l.name = Ln.en) := hq _
  have d0 := hBA.c0
  have d1 := hBA.c1
  clear hq eu
  unfold AdP
  cases o with
  | nil =>
    obtain rfl : no = 0 := h.len.symm
    have cO : True := trivial
    by_cases hnm : l.name = Ln.bg
    · have HNM := Lib.hid hnm
      rw [decide_eq_true hnm] at hq1
      generalize (ByteArray.mk l.name.toArray) = nl at *
      generalize (ByteArray.mk l.value.toArray) = vl at *
      generalize (ByteArray.mk (Ln.upp l.value).toArray) = un at *
      by_cases hps : l.ps = []
      · obtain rfl : n = 0 := by rw [← hn, hps]; rfl
        have HPS := Lib.hid hps
        cases hnb : Ln.nameB (Ln.upp l.value)
        · rw [hnb] at cN
          have HNB := Lib.hid hnb
          clear hps hnb hnm cO
          go_enter Tryd.func36, Tryd.ntmps36
          go_wp2_with (first
            | (go_at_call 59; refine cU.mono ?_; rintro e w2 ⟨rfl, hg2⟩; obtain ⟨a0, a1, a2, a3, a4, a5⟩ := hx0.gr hg2)
            | (go_at_call 49; refine (cN _).mono ?_; rintro e w' ⟨rfl, rfl⟩))
          go_ret
          exact ⟨(hg0.trans hg2).low (by omega), .inr (.inr ⟨(by simp only [Ln.stp]; rw [if_neg (fun e => by have e2 := e.2.2; rw [HNB.out] at e2; cases e2)]), 5, rfl, by first | rfl | decide⟩)⟩
        · rw [hnb] at cN
          have HNB := Lib.hid hnb
          clear hps hnb hnm cO
          go_enter Tryd.func36, Tryd.ntmps36
          go_wp2_with (first
            | (go_at_call 59; refine cU.mono ?_; rintro e w2 ⟨rfl, hg2⟩; obtain ⟨a0, a1, a2, a3, a4, a5⟩ := hx0.gr hg2)
            | (go_at_call 49; refine (cN _).mono ?_; rintro e w' ⟨rfl, rfl⟩))
          refine (cB _ (hg0.trans hg2)).mono ?_
          rintro e w3 ⟨hb3, ⟨h4, rfl⟩ | ⟨h4, rfl, hbs⟩⟩
          · go_wp2
            go_ret
            exact ⟨((hg0.trans hg2).low (B := bb) (by omega)).trans hb3, .inr (.inr ⟨by exact absurd h4 (by omega), 8, rfl, by first | rfl | decide⟩)⟩
          · go_wp2
            go_ret
            exact ⟨((hg0.trans hg2).low (B := bb) (by omega)).trans hb3, .inl ⟨_, by simp only [Ln.stp]; rw [if_pos ⟨HNM.out, HPS.out, HNB.out⟩], rfl, hbs⟩⟩
      · have hpos : 0 < n := by rw [← hn]; exact List.length_pos_iff.2 hps
        have hpi : (0 : Int) < (n : Int) := by omega
        have HPS := Lib.hid hps
        clear hps hnm cO
        go_enter Tryd.func36, Tryd.ntmps36
        go_wp2_with (go_at_call 59; refine cU.mono ?_; rintro e w2 ⟨rfl, hg2⟩; obtain ⟨a0, a1, a2, a3, a4, a5⟩ := hx0.gr hg2)
        go_ret
        exact ⟨(hg0.trans hg2).low (by omega), .inr (.inr ⟨(by simp only [Ln.stp]; rw [if_neg (fun e => HPS.out e.2.1)]), 5, rfl, by first | rfl | decide⟩)⟩
    · have HNM := Lib.hid hnm
      rw [decide_eq_false hnm] at hq1
      clear hnm
      generalize (ByteArray.mk l.name.toArray) = nl at *
      generalize (ByteArray.mk l.value.toArray) = vl at *
      go_enter Tryd.func36, Tryd.ntmps36
      go_wp2
      go_ret
      exact ⟨hg0.low (by omega), .inr (.inr ⟨by simp only [Ln.stp]; rw [if_neg (fun e => HNM.out e.1)], 5, rfl, by first | rfl | decide⟩)⟩
  | cons t r =>
    obtain ⟨k, rfl⟩ : ∃ k, no = k + 1 := ⟨r.length, by rw [← h.len]; rfl⟩
    have hrl : r.length = k := by have := h.len; simpa using this
    have HRL := Lib.hid hrl
    have hk3 : k ≤ 3 := by simp only [List.length_cons] at ho4; omega
    have hk0 : ((k : Int) + 1 == 0) = false := by rw [beq_eq_false_iff_ne]; omega
    cases ss with
    | nil => have := h.stk.len; simp at this
    | cons s q =>
    have cO := bown_any bb k t r Ao co s q l A n c _ hBA hPA hnc hk3 (hsz t (by simp)).1 (hsz t (by simp)).2
    have cE := fun w1 (h1 : Gr w w1) => bend_any bb k t r Ao co s q ⟨(Ln.upp l.value).toArray⟩ w1 (h.gr h1) hk3 (fun u hu => (hsz u (by simp [hu])).2)
    rw [en] at cE
    by_cases hnm : l.name = Ln.bg
    · have HNM := Lib.hid hnm
      rw [decide_eq_true hnm] at hq1
      clear cE
      generalize (ByteArray.mk l.name.toArray) = nl at *
      generalize (ByteArray.mk l.value.toArray) = vl at *
      generalize (ByteArray.mk (Ln.upp l.value).toArray) = un at *
      by_cases hps : l.ps = []
      · obtain rfl : n = 0 := by rw [← hn, hps]; rfl
        have HPS := Lib.hid hps
        cases hnb : Ln.nameB (Ln.upp l.value)
        · rw [hnb] at cN
          have HNB := Lib.hid hnb
          clear hps hnb hnm cO
          go_enter Tryd.func36, Tryd.ntmps36
          go_wp2_with (first
            | (go_at_call 59; refine cU.mono ?_; rintro e w2 ⟨rfl, hg2⟩; obtain ⟨a0, a1, a2, a3, a4, a5⟩ := hx0.gr hg2)
            | (go_at_call 49; refine (cN _).mono ?_; rintro e w' ⟨rfl, rfl⟩))
          go_ret
          exact ⟨(hg0.trans hg2).low (by omega), .inr (.inr ⟨(by simp only [Ln.stp]; rw [if_pos HNM.out, if_neg (fun e => by have e2 := e.2.1; rw [HNB.out] at e2; cases e2)]), 5, rfl, by first | rfl | decide⟩)⟩
        · rw [hnb] at cN
          have HNB := Lib.hid hnb
          clear hps hnb hnm cO
          go_enter Tryd.func36, Tryd.ntmps36
          go_wp2_with (first
            | (go_at_call 59; refine cU.mono ?_; rintro e w2 ⟨rfl, hg2⟩; obtain ⟨a0, a1, a2, a3, a4, a5⟩ := hx0.gr hg2)
            | (go_at_call 49; refine (cN _).mono ?_; rintro e w' ⟨rfl, rfl⟩))
          refine (cB _ (hg0.trans hg2)).mono ?_
          rintro e w3 ⟨hb3, ⟨h4, rfl⟩ | ⟨h4, rfl, hbs⟩⟩
          · go_wp2
            go_ret
            exact ⟨((hg0.trans hg2).low (B := bb) (by omega)).trans hb3, .inr (.inr ⟨by simp only [Ln.stp]; rw [if_pos HNM.out, if_neg (fun e => by have := e.2.2; simp only [List.length_cons] at this; have := HRL.out; omega)], 8, rfl, by first | rfl | decide⟩)⟩
          · go_wp2
            go_ret
            exact ⟨((hg0.trans hg2).low (B := bb) (by omega)).trans hb3, .inl ⟨_, by simp only [Ln.stp]; rw [if_pos HNM.out, if_pos ⟨HPS.out, HNB.out, by simp only [List.length_cons]; have := HRL.out; omega⟩], rfl, hbs⟩⟩
      · have hpos : 0 < n := by rw [← hn]; exact List.length_pos_iff.2 hps
        have hpi : (0 : Int) < (n : Int) := by omega
        have HPS := Lib.hid hps
        clear hps hnm cO
        go_enter Tryd.func36, Tryd.ntmps36
        go_wp2_with (go_at_call 59; refine cU.mono ?_; rintro e w2 ⟨rfl, hg2⟩; obtain ⟨a0, a1, a2, a3, a4, a5⟩ := hx0.gr hg2)
        go_ret
        exact ⟨(hg0.trans hg2).low (by omega), .inr (.inr ⟨(by simp only [Ln.stp]; rw [if_pos HNM.out, if_neg (fun e => HPS.out e.1)]), 5, rfl, by first | rfl | decide⟩)⟩
    · have HNB0 := Lib.hid hnm
      rw [decide_eq_false hnm] at hq1
      clear hnm
      by_cases hnm : l.name = Ln.en
      · have HNM := Lib.hid hnm
        rw [decide_eq_true hnm] at hq2
        clear cB
        generalize (ByteArray.mk l.name.toArray) = nl at *
        generalize (ByteArray.mk l.value.toArray) = vl at *
        generalize (ByteArray.mk (Ln.upp l.value).toArray) = un at *
        by_cases hps : l.ps = []
        · obtain rfl : n = 0 := by rw [← hn, hps]; rfl
          have HPS := Lib.hid hps
          cases hnb : Ln.nameB (Ln.upp l.value)
          · rw [hnb] at cN
            have HNB := Lib.hid hnb
            clear hps hnb hnm cO
            go_enter Tryd.func36, Tryd.ntmps36
            go_wp2_with (first
              | (go_at_call 59; refine cU.mono ?_; rintro e w2 ⟨rfl, hg2⟩; obtain ⟨a0, a1, a2, a3, a4, a5⟩ := hx0.gr hg2)
              | (go_at_call 49; refine (cN _).mono ?_; rintro e w' ⟨rfl, rfl⟩))
            go_ret
            exact ⟨(hg0.trans hg2).low (by omega), .inr (.inr ⟨(by simp only [Ln.stp]; rw [if_neg (by rw [HNM.out]; decide), if_pos HNM.out, if_neg (fun e => by have e2 := e.2.1; rw [HNB.out] at e2; cases e2)]), 5, rfl, by first | rfl | decide⟩)⟩
          · rw [hnb] at cN
            have HNB := Lib.hid hnb
            clear hps hnb hnm cO
            go_enter Tryd.func36, Tryd.ntmps36
            go_wp2_with (first
              | (go_at_call 59; refine cU.mono ?_; rintro e w2 ⟨rfl, hg2⟩; obtain ⟨a0, a1, a2, a3, a4, a5⟩ := hx0.gr hg2)
              | (go_at_call 49; refine (cN _).mono ?_; rintro e w' ⟨rfl, rfl⟩))
            refine (cE _ (hg0.trans hg2)).mono ?_
            rintro e w3 ⟨hb3, ⟨h4, rfl⟩ | ⟨h4, rfl, hbs⟩⟩
            · go_wp2
              go_ret
              exact ⟨((hg0.trans hg2).low (B := bb) (by omega)).trans hb3, .inr (.inr ⟨by simp only [Ln.stp]; rw [if_neg (by rw [HNM.out]; decide), if_pos HNM.out, if_neg (fun e => h4 e.2.2)], 5, rfl, by first | rfl | decide⟩)⟩
            · have hst : Ln.stp (t :: r) l = some (Ln.addK r t) := by simp only [Ln.stp]; rw [if_neg (by rw [HNM.out]; decide), if_pos HNM.out, if_pos ⟨HPS.out, HNB.out, h4⟩]
              rcases hbs with ⟨rfl, s', hbd⟩ | ⟨u, r', Ao', no', co', ss', rfl, hbs⟩
              · have HST := Lib.hid hst
                clear hst
                go_wp2
                go_ret
                exact ⟨((hg0.trans hg2).low (B := bb) (by omega)).trans hb3, .inr (.inl ⟨t, HST.out, rfl, s', hbd⟩)⟩
              · have HST := Lib.hid hst
                clear hst
                go_wp2
                go_ret
                exact ⟨((hg0.trans hg2).low (B := bb) (by omega)).trans hb3, .inl ⟨_, HST.out, rfl, _, _, _, _, hbs⟩⟩
        · have hpos : 0 < n := by rw [← hn]; exact List.length_pos_iff.2 hps
          have hpi : (0 : Int) < (n : Int) := by omega
          have HPS := Lib.hid hps
          clear hps hnm cO
          go_enter Tryd.func36, Tryd.ntmps36
          go_wp2_with (go_at_call 59; refine cU.mono ?_; rintro e w2 ⟨rfl, hg2⟩; obtain ⟨a0, a1, a2, a3, a4, a5⟩ := hx0.gr hg2)
          go_ret
          exact ⟨(hg0.trans hg2).low (by omega), .inr (.inr ⟨(by simp only [Ln.stp]; rw [if_neg (by rw [HNM.out]; decide), if_pos HNM.out, if_neg (fun e => HPS.out e.1)]), 5, rfl, by first | rfl | decide⟩)⟩
      · have HNM := Lib.hid hnm
        rw [decide_eq_false hnm] at hq2
        clear hnm cB cE cU cN
        generalize (ByteArray.mk l.name.toArray) = nl at *
        generalize (ByteArray.mk l.value.toArray) = vl at *
        go_enter Tryd.func36, Tryd.ntmps36
        go_wp2_with fail
        refine cO.mono ?_
        rintro e w3 ⟨hb3, ⟨hk, rfl⟩ | ⟨hk, rfl, hbs⟩⟩
        · have HK := Lib.hid hk
          clear hk
          go_wp2
          go_ret
          exact ⟨(hg0.low (B := bb) (by omega)).trans hb3, .inr (.inr ⟨by simp only [Ln.stp]; rw [if_neg HNB0.out, if_neg HNM.out, if_neg HK.out], 5, rfl, by first | rfl | decide⟩)⟩
        · have HK := Lib.hid hk
          clear hk
          go_wp2
          go_ret
          exact ⟨(hg0.low (B := bb) (by omega)).trans hb3, .inl ⟨_, by simp only [Ln.stp]; rw [if_neg HNB0.out, if_neg HNM.out, if_pos HK.out], rfl, hbs⟩⟩
end Go.Proofs.YtbfngdpdgmgfpaaDoor
namespace Go.Proofs.YtbfngdpdgmgfpaaDoor
open Go.RowKit

namespace Ln
/- all lines that have been read -/
def LP (P : Li → Prop) : St → Prop
  | .op o => ∀ t ∈ o, AllT P (fun _ => True) t
  | .done t => AllT P (fun _ => True) t
theorem stp_lp {P : Li → Prop} {o : List Tr} {l : Li} {s : St} (hl : P l) (h : ∀ t ∈ o, AllT P (fun _ => True) t) (hs : stp o l = some s) : LP P s := by
  have hnew : ∀ n, AllT P (fun _ => True) (.mk n [] []) := fun n => .mk _ trivial (fun l hl => by simp [Tr.lines] at hl) (fun u hu => by simp [Tr.kids] at hu)
  cases o with
  | nil =>
    simp only [stp] at hs
    split at hs
    · injection hs with hs
      subst hs
      intro t ht
      rw [List.mem_singleton] at ht
      subst ht
      exact hnew _
    · cases hs
  | cons t r =>
    have h0 := h t (by simp)
    have hr : ∀ u ∈ r, AllT P (fun _ => True) u := fun u hu => h u (by simp [hu])
    simp only [stp] at hs
    split at hs
    · split at hs
      · injection hs with hs
        subst hs
        intro u hu
        rcases List.mem_cons.1 hu with rfl | hu
        · exact hnew _
        · exact h u hu
      · cases hs
    · split at hs
      · split at hs
        · injection hs with hs
          subst hs
          cases r with
          | nil => exact h0
          | cons u r =>
            intro x hx
            rcases List.mem_cons.1 hx with rfl | hx
            · have hu := hr u (by simp)
              refine .mk _ trivial hu.l (fun y hy => ?_)
              have hy : y ∈ u.kids ++ [t] := hy
              rcases List.mem_append.1 hy with hy | hy
              · exact hu.k y hy
              · rw [List.mem_singleton] at hy; subst hy; exact h0
            · exact hr x (by simp [hx])
        · cases hs
      · split at hs
        · injection hs with hs
          subst hs
          intro x hx
          rcases List.mem_cons.1 hx with rfl | hx
          · refine .mk _ trivial (fun y hy => ?_) h0.k
            have hy : y ∈ t.lines ++ [l] := hy
            rcases List.mem_append.1 hy with hy | hy
            · exact h0.l y hy
            · rw [List.mem_singleton] at hy; subst hy; exact hl
          · exact hr x hx
        · cases hs
theorem stK_lp (ts : List (List UInt8)) {s : St} (h : stK ts = some s) : LP (fun l => wt l ≤ 2000) s := by
  suffices H : ∀ k, k ≤ ts.length → ∀ s, stK (ts.take k) = some s → LP (fun l => wt l ≤ 2000) s by
    have := H ts.length (Nat.le_refl _) s
    rw [List.take_length] at this
    exact this h
  intro k
  induction k with
  | zero => intro _ s hs; rw [List.take_zero, stK_nil] at hs; injection hs with hs; subst hs; intro t ht; cases ht
  | succ k ih =>
    intro hk s hs
    rw [stK_take ts k (by omega)] at hs
    cases h1 : stK (ts.take k) with
    | none => rw [h1] at hs; cases hs
    | some s1 =>
      rw [h1, Option.bind_some] at hs
      cases h2 : rp ts[k] with
      | none => rw [h2] at hs; cases hs
      | some l =>
        rw [h2, Option.bind_some] at hs
        split at hs
        · cases hs
        · cases s1 with
          | done t => cases hs
          | op o =>
            have := rp_len h2
            have := (rp_good h2).2
            exact stp_lp (by omega) (ih (by omega) _ h1) hs
theorem wt_rw {l : Li} (h : wt l ≤ 2000) : Fl l := by
  unfold wt at h
  have h1 := wtPs_len l.ps
  refine ⟨⟨by omega, by omega, by omega, fun p hp => ?_, fun p hp => ?_, fun p hp v hv => ?_⟩, .inl (by omega)⟩
  · have := wtPs_mem hp; unfold wtP at this; omega
  · have := wtPs_mem hp; unfold wtP at this; have := wtV_len p.2; omega
  · have := wtPs_mem hp; unfold wtP at this; have := wtV_mem hv; omega
theorem fit_of {t : Tr} (h : AllT (fun l => wt l ≤ 2000) (fun _ => True) t) : pf t = true → cnt t ≤ 300 → FitT t := by
  induction h with
  | mk t hq hl hk ih =>
    intro hp hc
    have h1 := cnt_eq t
    have h2 := cnts_len t.kids
    rw [pf_eq] at hp
    simp only [Bool.and_eq_true] at hp
    have h3 := ((nameB_iff _).1 hp.1).2.1
    exact .mk t ⟨by omega, by omega, by omega⟩ (fun l h => wt_rw (hl l h)) (fun u hu => ih u hu (pfs_mem hu hp.2.2) (by have := cnts_mem hu; omega))
theorem prs_fit {s : List UInt8} {t : Tr} (h : prs s = some t) : FitT t := by
  have hf := (fmT_iff t).1 (prs_good h)
  unfold prs at h
  split at h
  · cases h
  · cases h1 : stK (Fd.unf s).1 with
    | none => rw [h1] at h; cases h
    | some x =>
      rw [h1] at h
      cases x with
      | op o => cases h
      | done u =>
        injection h with h
        subst h
        exact fit_of (stK_lp _ h1) hf.2.2 hf.2.1
theorem tot_mem {o : List Tr} {t : Tr} (h : t ∈ o) : t.lines.length + cnts t.kids ≤ tot o := by
  induction o with
  | nil => cases h
  | cons u o ih =>
    simp only [tot]
    rcases List.mem_cons.1 h with rfl | h
    · omega
    · have := ih h; omega
theorem stK_len {ts : List (List UInt8)} {s : St} (h : stK ts = some s) : ts.length ≤ 300 := by
  unfold stK at h
  split at h
  · cases h
  · omega
theorem prs_err {s : List UInt8} (h : (Fd.unf s).2.2 ≠ 0) : prs s = none := by unfold prs; rw [if_pos h]
theorem prs_no {s : List UInt8} (h : stK (Fd.unf s).1 = none) : prs s = none := by
  unfold prs
  split
  · rfl
  · rw [h]
theorem prs_op {s : List UInt8} {o : List Tr} (h : stK (Fd.unf s).1 = some (.op o)) : prs s = none := by
  unfold prs
  split
  · rfl
  · rw [h]
theorem prs_done {s : List UInt8} {t : Tr} (h0 : (Fd.unf s).2.2 = 0) (h : stK (Fd.unf s).1 = some (.done t)) : prs s = some t := by
  unfold prs
  rw [if_neg (by simp [h0]), h]
end Ln
namespace Fd
theorem chk_short {a : List (List UInt8 × Nat)} (h : chk a = none) : ∀ x ∈ a.map Prod.fst, x.length ≤ 2000 := by
  induction a with
  | nil => intro x hx; simp at hx
  | cons p a ih =>
    obtain ⟨l, k⟩ := p
    simp only [chk] at h
    split at h
    · cases h
    · split at h
      · cases h
      · rename_i h2
        intro x hx
        simp only [List.map_cons, List.mem_cons] at hx
        rcases hx with rfl | hx
        · omega
        · exact ih h x hx
theorem unf_short (s : List UInt8) : ∀ x ∈ (unf s).1, x.length ≤ 2000 := by
  unfold unf
  split
  · intro x hx; simp at hx
  · split
    · intro x hx; simp at hx
    · cases h : chk (gs [] 0 (sp 0 s).2) with
      | some y => intro x hx; simp at hx
      | none => exact chk_short h
end Fd
theorem OwnV.max {w : World} {B : Nat} {e : TypeId} {A : Option Addr} {n c : Nat} {xs : List Value} (h : OwnV w B e A n c xs) : n ≤ 9223372036854775807 := by
  rcases h.2 with ⟨hn, h0⟩ | ⟨g, cap, cur, hv, _, _, hc, hm, _⟩
  · omega
  · unfold maxLen at hm; omega
/- a line behind the whole component -/
set_option maxHeartbeats 4000000 in
theorem badd_done (bb : Nat) (t : Ln.Tr) (s : Sl) (nl vl : ByteArray) (A : Option Addr) (n c : Nat) (w : World) (h : BD w bb t s) :
    Calls Tryd.prog 36 #[.pointer (some ⟨bb, 0, none⟩), .agg #[.string nl, .slice A n c, .string vl]] w fun e w' => e = .returned (.int .i64 5) ∧ Gr w w' := by
  have hg0 : Gr w (w.alloc (.cells #[.string nl, .slice A n c, .string vl] 48)) := (Gr.refl w).allocO _
  have d1 := gr_cell0 hg0 h.c1
  go_enter Tryd.func36, Tryd.ntmps36
  go_wp2
  go_ret
  exact ⟨rfl, hg0⟩
def PtPost (L : List UInt8) (w : World) (e : Ending) (w' : World) : Prop :=
  (∃ t A1 n1 c1 A2 n2 c2, Ln.prs L = some t ∧ e = .returned (.tuple #[.agg #[.string ⟨t.name.toArray⟩, .slice A1 n1 c1, .slice A2 n2 c2], .int .i64 0, .int .i64 0]) ∧ Gr w w' ∧ Lns w' w'.heap.size A1 n1 t.lines ∧ Kds 4 w' w'.heap.size A2 n2 t.kids) ∨
  (Ln.prs L = none ∧ ∃ E m : Int, e = .returned (.tuple #[.agg #[.string ⟨#[]⟩, .slice none 0 0, .slice none 0 0], .int .i64 m, .int .i64 E]) ∧ (E != 0) = true ∧ Gr w w')
/- what the loop has come to behind k texts -/
def PtAt (bb : Nat) (ts : List (List UInt8)) (k : Nat) (w : World) : Prop :=
  (∃ o Ao no co ss, Ln.stK (ts.take k) = some (.op o) ∧ BS w bb o Ao no co ss) ∨ (∃ t s, Ln.stK (ts.take k) = some (.done t) ∧ BD w bb t s)
theorem PtAt.gr {bb : Nat} {ts : List (List UInt8)} {k : Nat} {w w' : World} (h : PtAt bb ts k w) (hg : Gr w w') : PtAt bb ts k w' := by
  rcases h with ⟨o, Ao, no, co, ss, h1, h2⟩ | ⟨t, s, h1, h2⟩
  · exact .inl ⟨o, Ao, no, co, ss, h1, h2.gr hg⟩
  · exact .inr ⟨t, s, h1, h2.gr hg⟩
theorem bs_new (w : World) : BS (w.alloc (.cells #[.slice none 0 0, .bool false, .string ⟨#[]⟩, .slice none 0 0, .slice none 0 0] 70)) w.heap.size [] none 0 0 [] :=
  ⟨by simp, by simp, by simp, by simp, by simp, fun i => by rw [frozen?_alloc_cells]; simp [World.frozen?], World.ownsRow_nil _ _ _ _, rfl, trivial, by simp [ob, Value.ownBlock, ows]⟩
set_option maxHeartbeats 8000000 in
set_option maxRecDepth 100000 in
theorem tparse_any (s : ByteArray) (w : World) (hT : Tab w) (hs : s.size ≤ 1000000) :
    Calls Tryd.prog 16 #[.string s] w (PtPost s.data.toList w) := by
  have hg0 : Gr w (w.alloc (.cells #[.string ⟨#[]⟩, .slice none 0 0, .slice none 0 0] 31)) := (Gr.refl w).allocO _
  have hx0 := Bx3.new w (.string ⟨#[]⟩) (.slice none 0 0) (.slice none 0 0) 31
  have cU := unfold_any s _ (hT.keep hg0) hs
  obtain ⟨ts, hts⟩ : ∃ ts, (Fd.unf s.data.toList).1 = ts := ⟨_, rfl⟩
  obtain ⟨pc, hpc⟩ : ∃ pc, (Fd.unf s.data.toList).2.1 = pc := ⟨_, rfl⟩
  obtain ⟨ue, hue⟩ : ∃ ue, (Fd.unf s.data.toList).2.2 = ue := ⟨_, rfl⟩
  rw [hts, hpc, hue] at cU
  have HSH := Lib.hid (hts ▸ Fd.unf_short s.data.toList)
  unfold PtPost
  by_cases hu0 : ue = 0
  · have HDN : Hid (∀ t, Ln.stK ts = some (.done t) → Ln.prs s.data.toList = some t) := Lib.hid (fun t h => Ln.prs_done (by rw [hue]; exact hu0) (by rw [hts]; exact h))
    have HOP : Hid (∀ o, Ln.stK ts = some (.op o) → Ln.prs s.data.toList = none) := Lib.hid (fun o h => Ln.prs_op (by rw [hts]; exact h))
    have HNO : Hid (Ln.stK ts = none → Ln.prs s.data.toList = none) := Lib.hid (fun h => Ln.prs_no (by rw [hts]; exact h))
    subst hu0
    clear hts hpc hue
    generalize Ln.prs s.data.toList = PR at *
    go_enter Tryd.func16, Tryd.ntmps16
    go_wp2_with (go_at_call 34; refine cU.mono ?_; rintro e w1 ⟨A, n, c, rfl, hown, hg1⟩)
    have hgB : Gr w1 (w1.alloc (.cells #[.slice none 0 0, .bool false, .string ⟨#[]⟩, .slice none 0 0, .slice none 0 0] 70)) := (Gr.refl w1).allocO _
    have hBS0 := bs_new w1
    have hx1 := (hx0.gr hg1).gr hgB
    have hS1 := Strs.of_own hown
    have hnm := hown.max
    have hg1' := hg0.trans hg1
    have hw1 : w.heap.size < w1.heap.size := by have := (hx0.gr hg1).lt; omega
    have hszB : (w1.alloc (.cells #[.slice none 0 0, .bool false, .string ⟨#[]⟩, .slice none 0 0, .slice none 0 0] 70)).heap.size = w1.heap.size + 1 := by simp
    have HL := Lib.hid hS1.1
    clear hown cU hg1 hg0 hx0
    generalize (w1.alloc (.cells #[.slice none 0 0, .bool false, .string ⟨#[]⟩, .slice none 0 0, .slice none 0 0] 70)) = W0 at *
    go_loopg [27] n (fun g v27 wx => ∃ k : Nat, v27 = .int .i64 (k : Int) ∧ k + g = n ∧ Below w1.heap.size W0 wx ∧ PtAt w1.heap.size ts k wx)
    case atStart => exact ⟨0, rfl, by omega, Below.refl _ _, .inl ⟨[], _, _, _, _, by rw [List.take_zero]; exact Ln.stK_nil, hBS0⟩⟩
    case round =>
      obtain ⟨k, rfl, hkg, hbx, hat⟩ := hrel
      have HG := Lib.hid hkg
      clear hkg
      have hb1 : Below w1.heap.size w1 wr := hgB.below.trans hbx
      have hbw1 : Below w.heap.size w wr := hg1'.below.trans (hb1.mono (by omega))
      have hxr := hx1.below hbx hw1
      have HXr := Lib.hid hxr
      by_cases hk : k < n
      · obtain ⟨ad, hk', rfl, hbl, hc0⟩ := (hS1.keep hb1).at_ hk
        have hTr := (hT.keep hg1').low hb1 (hT.keep hg1').lt.1 (hT.keep hg1').lt.2
        have hzl := HSH.out ts[k] (List.getElem_mem hk')
        have cP := parse_fr ⟨ts[k].toArray⟩ wr hTr (by rw [size_mk]; omega)
        have e1 : (ByteArray.mk ts[k].toArray).data.toList = ts[k] := rfl
        unfold PsPostF at cP
        rw [e1] at cP
        have hst := Ln.stK_take ts k hk'
        have HNOk := Lib.hid (fun h => HNO.out (Ln.stK_no ts (k + 1) h))
        have hkn : (k : Int) < (n : Int) := by omega
        clear e1 hzl hxr
        generalize (ByteArray.mk ts[k].toArray) = tb at *
        cases hrp : Ln.rp ts[k] with
        | none =>
          rw [hrp] at cP hst
          have HPN : Hid (PR = none) := Lib.hid (HNOk.out (by rw [hst]; cases Ln.stK (ts.take k) <;> rfl))
          have cQ := cP.mono (R' := fun e w' => ∃ E m : Int, e = .returned (.tuple #[.agg #[.string ⟨#[]⟩, .slice none 0 0, .string ⟨#[]⟩], .int .i64 m, .int .i64 E]) ∧ (E != 0) = true ∧ Gr wr w') (by
            rintro e w' (⟨_, _, _, _, h, _⟩ | ⟨_, h⟩)
            · cases h
            · exact h)
          clear hst hrp HNOk cP
          go_wp2_with fail
          refine cQ.mono ?_
          rintro e w2 ⟨E, m, rfl, hE, hg2⟩
          have hE2 : (E == 0) = false := by simpa using hE
          have hg3 : Gr wr (w2.alloc (.cells #[.string ⟨#[]⟩, .slice none 0 0, .string ⟨#[]⟩] 48)) := hg2.allocO _
          have hxR := HXr.out.gr hg3
          have HXR := Lib.hid hxR
          obtain ⟨r0, r1, r2, r3, r4, r5⟩ := hxR
          go_wp2
          obtain ⟨y0, y1, y2⟩ := HXR.out.set3 (.string ⟨#[]⟩) (.slice none 0 0) (.slice none 0 0)
          have hbw := (hbw1.trans (hg3.low (B := w.heap.size) (by have := hbw1.size; omega))).trans (below_set3 (w := (w2.alloc (.cells #[.string ⟨#[]⟩, .slice none 0 0, .string ⟨#[]⟩] 48))) (b := w.heap.size) (Nat.le_refl w.heap.size) (.string ⟨#[]⟩) (.slice none 0 0) (.slice none 0 0))
          generalize World.setCell (World.setCell (World.setCell _ _ _) _ _) _ _ = WR at *
          exact bodyPost_ret (v := .tuple #[.agg #[.string ⟨#[]⟩, .slice none 0 0, .slice none 0 0], .int .i64 ((k : Int) + 1), .int .i64 E]) (by simp [results, Tryd.results16, go_sem, y0, y1, y2]) rfl (.inr ⟨HPN.out, E, ((k : Int) + 1), rfl, hE, ⟨hbw⟩⟩)
        | some l =>
          rw [hrp] at cP hst
          have hlg := Ln.rp_good hrp
          have hll := Ln.rp_len hrp
          have hvl : l.value.length ≤ 2000 := by have := hlg.2; unfold Ln.wt at this; omega
          have cQ := cP.mono (R' := fun e w' => ∃ A' n' c', e = .returned (.tuple #[.agg #[.string ⟨l.name.toArray⟩, .slice A' n' c', .string ⟨l.value.toArray⟩], .int .i64 0, .int .i64 0]) ∧ Gr wr w' ∧ Fp (fun x => wr.heap.size ≤ x) w' (fun v => Pars v v.heap.size A' n' l.ps) ∧ n' ≤ c') (by
            rintro e w' (⟨l2, A', n', c', h, h1, h2, h3, h4⟩ | ⟨h, _⟩)
            · injection h with h
              subst h
              exact ⟨A', n', c', h1, h2, h3, h4⟩
            · cases h)
          clear cP hrp
          obtain ⟨nl, hnl⟩ : ∃ nl, nl = ByteArray.mk l.name.toArray := ⟨_, rfl⟩
          obtain ⟨vl, hvl2⟩ : ∃ vl, vl = ByteArray.mk l.value.toArray := ⟨_, rfl⟩
          rw [← hnl, ← hvl2] at cQ
          have HNL := Lib.hid (And.intro hnl hvl2)
          clear hnl hvl2
          by_cases h300 : 300 ≤ k
          · have HPN : Hid (PR = none) := Lib.hid (HNOk.out (by rw [hst]; cases Ln.stK (ts.take k) <;> simp [h300]))
            have h3i : (300 : Int) ≤ (k : Int) := by omega
            clear hst HNOk
            go_wp2_with fail
            refine cQ.mono ?_
            rintro e w2 ⟨A', n', c', rfl, hg2, hPl, hnc⟩
            have hg3 : Gr wr (w2.alloc (.cells #[.string nl, .slice A' n' c', .string vl] 48)) := hg2.allocO _
            have hg23 : Gr w2 (w2.alloc (.cells #[.string nl, .slice A' n' c', .string vl] 48)) := (Gr.refl w2).allocO _
            have hxR := HXr.out.gr hg3
            have HXR := Lib.hid hxR
            obtain ⟨r0, r1, r2, r3, r4, r5⟩ := hxR
            go_wp2
            obtain ⟨y0, y1, y2⟩ := HXR.out.set3 (.string ⟨#[]⟩) (.slice none 0 0) (.slice none 0 0)
            have hbw := (hbw1.trans (hg3.low (B := w.heap.size) (by have := hbw1.size; omega))).trans (below_set3 (w := (w2.alloc (.cells #[.string nl, .slice A' n' c', .string vl] 48))) (b := w.heap.size) (Nat.le_refl w.heap.size) (.string ⟨#[]⟩) (.slice none 0 0) (.slice none 0 0))
            generalize World.setCell (World.setCell (World.setCell _ _ _) _ _) _ _ = WR at *
            exact bodyPost_ret (v := .tuple #[.agg #[.string ⟨#[]⟩, .slice none 0 0, .slice none 0 0], .int .i64 ((k : Int) + 1), .int .i64 9]) (by simp [results, Tryd.results16, go_sem, y0, y1, y2]) rfl (.inr ⟨HPN.out, 9, ((k : Int) + 1), rfl, rfl, ⟨hbw⟩⟩)
          · have h3i : ¬ (300 : Int) ≤ (k : Int) := by omega
            rcases hat with ⟨o, Ao, no, co, ss, hso, hbs⟩ | ⟨t, sl, hso, hbd⟩
            · rw [hso, Option.bind_some, Option.bind_some, if_neg h300] at hst
              have hst2 : Ln.stK (ts.take (k + 1)) = Ln.stp o l := hst
              have HST := Lib.hid hst2
              have hinv := Ln.stK_inv _ hso
              have htl : (ts.take k).length = k := by rw [List.length_take]; omega
              rw [htl] at hinv
              have hszo : ∀ t ∈ o, t.lines.length ≤ 100000 ∧ t.kids.length ≤ 100000 := fun t ht => by
                have h1 := Ln.tot_mem ht
                have h2 := hinv.2
                have h3 := Ln.cnts_len t.kids
                exact ⟨by omega, by omega⟩
              have ho4 := Ln.Inv.len hinv.1
              have hown := hbs.own
              have hbbl := hbs.lt
              clear hst hst2 hso hinv htl
              go_wp2_with fail
              refine cQ.mono ?_
              rintro e w2 ⟨A', n', c', rfl, hg2, hPl, hnc⟩
              have hg3 : Gr wr (w2.alloc (.cells #[.string nl, .slice A' n' c', .string vl] 48)) := hg2.allocO _
              have hg23 : Gr w2 (w2.alloc (.cells #[.string nl, .slice A' n' c', .string vl] 48)) := (Gr.refl w2).allocO _
              have hBS3 := hbs.gr hg3
              have hP3 : Fp (Fr (w1.heap.size + 1) (ob (.slice Ao no co) ++ ows ss)) (w2.alloc (.cells #[.string nl, .slice A' n' c', .string vl] 48)) (fun v => Pars v v.heap.size A' n' l.ps) := (hPl.weak (fun x _ hx => ⟨by have : wr.heap.size ≤ x := hx; omega, fun e => by have h1 := (hown x e).2; have : wr.heap.size ≤ x := hx; omega⟩)).gr hg23
              have cA := badd_any w1.heap.size o Ao no co ss l A' n' c' _ hBS3 hP3 hnc hvl ho4 hszo
              rw [← HNL.out.1, ← HNL.out.2] at cA
              have hxR := HXr.out.gr hg3
              have hgB3 := hbx.trans (hg3.low (B := w1.heap.size) (by omega))
              go_wp2_with fail
              refine cA.mono ?_
              rintro e w4 ⟨hb4, ⟨o', hs4, rfl, Ao', no', co', ss', hbs4⟩ | ⟨t4, hs4, rfl, s4, hbd4⟩ | ⟨hs4, E, rfl, hE⟩⟩
              · have HS4 := Lib.hid (HST.out.trans hs4)
                clear hs4
                go_wp2
                go_roundg (n - (k + 1))
                case measure => have := HG.out; omega
                case rel => exact ⟨k + 1, by go_num, by omega, hgB3.trans hb4, .inl ⟨o', Ao', no', co', ss', HS4.out, hbs4⟩⟩
              · have HS4 := Lib.hid (HST.out.trans hs4)
                clear hs4
                go_wp2
                go_roundg (n - (k + 1))
                case measure => have := HG.out; omega
                case rel => exact ⟨k + 1, by go_num, by omega, hgB3.trans hb4, .inr ⟨t4, s4, HS4.out, hbd4⟩⟩
              · have HPN : Hid (PR = none) := Lib.hid (HNOk.out (HST.out.trans hs4))
                have hE2 : (E == 0) = false := by simpa using hE
                have hxR4 := hxR.below hb4 hw1
                have HXR := Lib.hid hxR4
                obtain ⟨r0, r1, r2, r3, r4, r5⟩ := hxR4
                clear hs4
                go_wp2
                obtain ⟨y0, y1, y2⟩ := HXR.out.set3 (.string ⟨#[]⟩) (.slice none 0 0) (.slice none 0 0)
                have hbw := (((hbw1.trans (hg3.low (B := w.heap.size) (by have := hbw1.size; omega)))).trans (hb4.mono (show w.heap.size ≤ w1.heap.size by omega))).trans (below_set3 (w := w4) (b := w.heap.size) (Nat.le_refl w.heap.size) (.string ⟨#[]⟩) (.slice none 0 0) (.slice none 0 0))
                generalize World.setCell (World.setCell (World.setCell _ _ _) _ _) _ _ = WR at *
                exact bodyPost_ret (v := .tuple #[.agg #[.string ⟨#[]⟩, .slice none 0 0, .slice none 0 0], .int .i64 ((k : Int) + 1), .int .i64 E]) (by simp [results, Tryd.results16, go_sem, y0, y1, y2]) rfl (.inr ⟨HPN.out, E, ((k : Int) + 1), rfl, hE, ⟨hbw⟩⟩)
            · rw [hso, Option.bind_some, Option.bind_some, if_neg h300] at hst
              have HPN : Hid (PR = none) := Lib.hid (HNOk.out hst)
              clear hst hso HNOk
              go_wp2_with fail
              refine cQ.mono ?_
              rintro e w2 ⟨A', n', c', rfl, hg2, hPl, hnc⟩
              have hg3 : Gr wr (w2.alloc (.cells #[.string nl, .slice A' n' c', .string vl] 48)) := hg2.allocO _
              have hg23 : Gr w2 (w2.alloc (.cells #[.string nl, .slice A' n' c', .string vl] 48)) := (Gr.refl w2).allocO _
              have hbd3 := hbd.gr hg3
              have cA := badd_done w1.heap.size t sl nl vl A' n' c' _ hbd3
              go_wp2_with fail
              refine cA.mono ?_
              rintro e w4 ⟨rfl, hg4⟩
              have hxR := (HXr.out.gr hg3).gr hg4
              have HXR := Lib.hid hxR
              obtain ⟨r0, r1, r2, r3, r4, r5⟩ := hxR
              go_wp2
              obtain ⟨y0, y1, y2⟩ := HXR.out.set3 (.string ⟨#[]⟩) (.slice none 0 0) (.slice none 0 0)
              have hbw := (hbw1.trans ((hg3.trans hg4).low (B := w.heap.size) (by have := hbw1.size; omega))).trans (below_set3 (w := w4) (b := w.heap.size) (Nat.le_refl w.heap.size) (.string ⟨#[]⟩) (.slice none 0 0) (.slice none 0 0))
              generalize World.setCell (World.setCell (World.setCell _ _ _) _ _) _ _ = WR at *
              exact bodyPost_ret (v := .tuple #[.agg #[.string ⟨#[]⟩, .slice none 0 0, .slice none 0 0], .int .i64 ((k : Int) + 1), .int .i64 5]) (by simp [results, Tryd.results16, go_sem, y0, y1, y2]) rfl (.inr ⟨HPN.out, 5, ((k : Int) + 1), rfl, rfl, ⟨hbw⟩⟩)
      · obtain rfl : k = n := by have := HG.out; omega
        rcases hat with ⟨o, Ao, no, co, ss, hso, hbs⟩ | ⟨t, sl, hso, hbd⟩
        · rw [List.take_of_length_le (by rw [HL.out]; exact Nat.le_refl _)] at hso
          have HPN : Hid (PR = none) := Lib.hid (HOP.out o hso)
          have d1 := hbs.c1
          obtain ⟨r0, r1, r2, r3, r4, r5⟩ := hxr
          clear hso
          go_wp2
          obtain ⟨y0, y1, y2⟩ := HXr.out.set3 (.string ⟨#[]⟩) (.slice none 0 0) (.slice none 0 0)
          have hbw := hbw1.trans (below_set3 (w := wr) (b := w.heap.size) (Nat.le_refl w.heap.size) (.string ⟨#[]⟩) (.slice none 0 0) (.slice none 0 0))
          generalize World.setCell (World.setCell (World.setCell _ _ _) _ _) _ _ = WR at *
          refine bodyPost_ret (v := .tuple #[.agg #[.string ⟨#[]⟩, .slice none 0 0, .slice none 0 0], .int .i64 _, .int .i64 5]) (by simp [results, Tryd.results16, go_sem, y0, y1, y2]; rfl) rfl (.inr ⟨HPN.out, 5, _, rfl, rfl, ⟨hbw⟩⟩)
        · rw [List.take_of_length_le (by rw [HL.out]; exact Nat.le_refl _)] at hso
          have HPS : Hid (PR = some t) := Lib.hid (HDN.out t hso)
          obtain ⟨A1, n1, c1, A2, n2, c2⟩ := sl
          have d1 := hbd.c1
          have d2 := hbd.c2
          have d3 : wr.cell? ⟨w1.heap.size, 3, none⟩ = some (.slice A1 n1 c1) := hbd.c3
          have d4 : wr.cell? ⟨w1.heap.size, 4, none⟩ = some (.slice A2 n2 c2) := hbd.c4
          have hkl := hbd.kds
          have hln := hbd.lns
          obtain ⟨r0, r1, r2, r3, r4, r5⟩ := hxr
          clear hso
          go_wp2
          obtain ⟨y0, y1, y2⟩ := HXr.out.set3 (.string ⟨t.name.toArray⟩) (.slice A1 n1 c1) (.slice A2 n2 c2)
          have hmvS := mv_set3 wr w.heap.size (.string ⟨t.name.toArray⟩) (.slice A1 n1 c1) (.slice A2 n2 c2)
          have hln9 := (hln.agree (hmvS.agree (fun x hx => by have : w1.heap.size + 1 ≤ x := hx; omega))).now
          have hkl9 := (hkl.agree (hmvS.agree (fun x hx => by have : w1.heap.size + 1 ≤ x := hx; omega))).now
          have hbw := hbw1.trans (below_set3 (w := wr) (b := w.heap.size) (Nat.le_refl w.heap.size) (.string ⟨t.name.toArray⟩) (.slice A1 n1 c1) (.slice A2 n2 c2))
          generalize World.setCell (World.setCell (World.setCell _ _ _) _ _) _ _ = WR at *
          refine bodyPost_ret (v := .tuple #[.agg #[.string ⟨t.name.toArray⟩, .slice A1 n1 c1, .slice A2 n2 c2], .int .i64 0, .int .i64 0]) (by simp [results, Tryd.results16, go_sem, y0, y1, y2]) rfl (.inl ⟨t, HPS.out, ?_⟩)
          exact ⟨A1, n1, c1, A2, n2, ⟨c2, rfl⟩, ⟨hbw⟩, hln9, hkl9⟩
  · have HPR := Lib.hid (Ln.prs_err (s := s.data.toList) (by rw [hue]; exact hu0))
    have hune : (ue != 0) = true := by simp [hu0]
    clear hts hpc hue hu0
    go_enter Tryd.func16, Tryd.ntmps16
    go_wp2_with (go_at_call 34; refine cU.mono ?_; rintro e w1 ⟨A, n, c, rfl, hown, hg1⟩; have hx1 := hx0.gr hg1; obtain ⟨a0, a1, a2, a3, a4, a5⟩ := hx1)
    have hx1 := hx0.gr hg1
    obtain ⟨y0, y1, y2⟩ := hx1.set3 (.string ⟨#[]⟩) (.slice none 0 0) (.slice none 0 0)
    have hbw := (hg0.trans hg1).below.trans (below_set3 (w := w1) (b := w.heap.size) (Nat.le_refl w.heap.size) (.string ⟨#[]⟩) (.slice none 0 0) (.slice none 0 0))
    generalize World.setCell (World.setCell (World.setCell _ _ _) _ _) _ _ = W at *
    exact bodyPost_ret (v := .tuple #[.agg #[.string ⟨#[]⟩, .slice none 0 0, .slice none 0 0], .int .i64 (pc : Int), .int .i64 ue]) (by simp [results, Tryd.results16, go_sem, y0, y1, y2]) rfl (.inr ⟨HPR.out, ue, pc, rfl, hune, ⟨hbw⟩⟩)
end Go.Proofs.YtbfngdpdgmgfpaaDoor
namespace Go.Proofs.YtbfngdpdgmgfpaaDoor
open Go.RowKit

namespace Ln
theorem aw11 : prs [66, 69, 71, 73, 78, 58, 65, 13, 10, 69, 78, 68, 58, 65, 13, 10] = some (.mk [65] [] []) := by
  have hn : nameB [65] = true := by decide
  have hfm : fmT (.mk [65] [] []) = true := (fmT_iff _).2 ⟨by simp [dep, deps], by simp [cnt, cnts], by simp [pf, pfs, hn]⟩
  have htl : tl (.mk [65] [] []) = [⟨bg, [], [65]⟩, ⟨en, [], [65]⟩] := by simp [tl, tls]
  have hls : lsE (tl (.mk [65] [] [])) = 0 := by rw [htl, lsE, if_pos (bgl_ok hn), lsE, if_pos (enl_ok hn)]; rfl
  have htx : tx (.mk [65] [] []) = [[66, 69, 71, 73, 78, 58, 65], [69, 78, 68, 58, 65]] := by unfold tx; rw [htl]; simp [pr, bg, en]
  have hrf : ∀ (w : Nat) (l : List UInt8), (∀ b ∈ l, b.toNat < 128) → w + l.length ≤ 75 → Fd.rf w l = l := by
    intro w l
    induction l generalizing w with
    | nil => intro _ _; exact Fd.rf_nil w
    | cons b l ih =>
      intro hb hl
      have hw1 : Fd.wd (b :: l) = 1 := by
        have := Lib.decodeL_ascii b l (hb b (by simp))
        unfold Fd.wd; rw [this]
      simp only [List.length_cons] at hl
      rw [Fd.rf_same w (b :: l) (by simp) (by omega), hw1]
      have := ih (w + 1) (fun x hx => hb x (by simp [hx])) (by omega)
      simpa using this
  have hall : Fd.all (tx (.mk [65] [] [])) = [66, 69, 71, 73, 78, 58, 65, 13, 10, 69, 78, 68, 58, 65, 13, 10] := by
    rw [htx]
    unfold Fd.all Fd.line
    rw [List.flatMap_cons, List.flatMap_cons, List.flatMap_nil, hrf 0 _ (by decide) (by decide), hrf 0 _ (by decide) (by decide)]
    rfl
  have hfo : Fd.foldE (tx (.mk [65] [] [])) = 0 := by
    unfold Fd.foldE
    rw [if_neg (by rw [htx]; decide)]
    unfold Fd.long
    rw [hall, htx]
    decide
  have h := prs_back (.mk [65] [] []) (by rw [(pt_fold hfm hls).1]; exact hfo)
  rw [hall] at h
  exact h
end Ln
set_option maxHeartbeats 1000000 in
set_option maxRecDepth 100000 in
theorem awake11_any (w : World) (hT : Tab w) : Calls Tryd.prog 7 #[] w fun e w' => e = .returned (.bool true) ∧ Gr w w' := by
  have cP := (tparse_any ⟨#[66, 69, 71, 73, 78, 58, 65, 13, 10, 69, 78, 68, 58, 65, 13, 10]⟩ w hT (by decide)).mono (R' := fun e w' => ∃ A1 c1 A2 c2, e = .returned (.tuple #[.agg #[.string ⟨#[65]⟩, .slice A1 0 c1, .slice A2 0 c2], .int .i64 0, .int .i64 0]) ∧ Gr w w') (by
    rintro e w' (⟨t, A1, n1, c1, A2, n2, c2, hl, he, hg, h1, h2⟩ | ⟨hl, _⟩)
    · have h3 : Ln.prs [66, 69, 71, 73, 78, 58, 65, 13, 10, 69, 78, 68, 58, 65, 13, 10] = some t := hl
      rw [Ln.aw11] at h3
      injection h3 with h3
      subst h3
      have e1 : 0 = n1 := h1.1
      have e2 : 0 = n2 := h2.len
      subst e1 e2
      exact ⟨A1, c1, A2, c2, he, hg⟩
    · have h3 : Ln.prs [66, 69, 71, 73, 78, 58, 65, 13, 10, 69, 78, 68, 58, 65, 13, 10] = none := hl
      rw [Ln.aw11] at h3; cases h3)
  have cC := fun A1 c1 A2 c2 w1 => count_any 0 ⟨#[65]⟩ A1 A2 0 c1 0 c2 [] w1 (Kds.nil _ _ _ _) (by omega) (by omega) (fun u hu => by cases hu) (by simp [Ln.cnts])
  have e0 : ((0 + 2 + Ln.cnts [] : Nat) : Int) = 2 := by simp [Ln.cnts]
  rw [e0] at cC
  go_enter Tryd.func7, Tryd.ntmps7
  go_wp2_with (first
    | (go_at_call 16; refine cP.mono ?_; rintro e w1 ⟨A1, c1, A2, c2, rfl, hg1⟩)
    | (go_at_call 14; refine (cC _ _ _ _ _).mono ?_; rintro e w2 ⟨rfl, hg2⟩))
  go_ret
  exact ⟨rfl, (hg1.allocO _).trans hg2⟩
end Go.Proofs.YtbfngdpdgmgfpaaDoor
