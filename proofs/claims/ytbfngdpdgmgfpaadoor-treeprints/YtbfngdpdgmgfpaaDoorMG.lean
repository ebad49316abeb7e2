/- The texts TrPrint, TrEq, TrSame, TrFew, TrTheirs, TrOurs, one behind the other. -/
import Derived.Test.YtbfngdpdgmgfpaaDoorMD
import Derived.Test.YtbfngdpdgmgfpaaDoorME
import Derived.Test.YtbfngdpdgmgfpaaDoorMB
namespace Go.Proofs.YtbfngdpdgmgfpaaDoor
open Go.RowKit

namespace Ln
theorem tl_err1 {t : Tr} (h : nameB t.name = true) (k : Nat) (hk : lsE (t.lines.take k) ≠ 0) : lsE (tl t) = lsE (t.lines.take k) := by
  have h1 := lsE_no t.lines k hk
  rw [tl_eq, lsE, if_pos (bgl_ok h), lsE_append, h1, if_neg hk]
theorem tl_err2 {t : Tr} (h : nameB t.name = true) (hl : lsE t.lines = 0) (k : Nat) (hk : lsE (tls (t.kids.take k)) ≠ 0) : lsE (tl t) = lsE (tls (t.kids.take k)) := by
  have h1 : lsE (tls t.kids) = lsE (tls (t.kids.take k)) := by
    have := congrArg tls (List.take_append_drop k t.kids)
    rw [tls_append] at this
    rw [← this, lsE_append, if_neg hk]
  rw [tl_eq, lsE, if_pos (bgl_ok h), lsE_append, if_pos hl, lsE_append, h1, if_neg hk]
theorem tl_good {t : Tr} (h : nameB t.name = true) (hl : lsE t.lines = 0) (hk : lsE (tls t.kids) = 0) : lsE (tl t) = 0 := by
  rw [tl_eq, lsE, if_pos (bgl_ok h), lsE_append, if_pos hl, lsE_append, if_pos hk, lsE, if_pos (enl_ok h)]; rfl
theorem tls_err (ks : List Tr) (k : Nat) (hk : k < ks.length) (h : lsE (tls (ks.take k)) = 0) : lsE (tls (ks.take (k + 1))) = lsE (tl ks[k]) := by
  rw [tls_take ks k hk, lsE_append, if_pos h]
theorem tx_eq (t : Tr) : tx t = (bg ++ 58 :: t.name) :: (t.lines.map pr ++ ((tls t.kids).map pr ++ [en ++ 58 :: t.name])) := by
  unfold tx
  rw [tl_eq, List.map_cons, pr_bg, List.map_append, List.map_append, List.map_cons, pr_en]; rfl
theorem Fl.w {l : Li} (h : Fl l) (hf : formed l = true) : l.name.length + l.value.length + wtPs l.ps ≤ 5000 := h.2.formed hf
theorem lsE_one {ls : List Li} {k : Nat} (hk : k < ls.length) (h : lsE (ls.take k) = 0) : lsE (ls.take (k + 1)) = prE ls[k] := lsE_take ls k hk h
end Ln
theorem str_ext {a b : ByteArray} (h : a.data.toList = b.data.toList) : a = b := by
  cases a; cases b
  simp only [ByteArray.mk.injEq]
  exact Array.toList_inj.1 h
theorem cat_str (a b : ByteArray) : (a ++ b).data.toList = a.data.toList ++ b.data.toList := by simp [ByteArray.data_append]
theorem sc_more (acc m : List (List UInt8)) (tb x : List UInt8) : sc (acc ++ tb :: (m ++ [x])) = sc (acc ++ tb :: m) ++ [.string ⟨x.toArray⟩] := by simp [sc]
/- one row grows, or moves: all else stays -/
theorem grown_more {w w1 w2 : World} {r0 r1 : Option Nat} (h : w.grownBy w1 r0) (k : w1.grownBy w2 r1) (hr : ∀ g, r1 = some g → r0 = some g ∨ w.heap.size ≤ g) : w.grownBy w2 r0 :=
  ⟨k.os.trans h.os, k.tape.trans h.tape, k.output.trans h.output, Nat.le_trans h.size k.size, fun i hi hne => (k.block i (Nat.lt_of_lt_of_le hi h.size) (fun e => by
    rcases hr i e.symm with h1 | h1
    · exact hne h1.symm
    · omega)).trans (h.block i hi hne)⟩
theorem Gr.grown {w w' : World} (h : Gr w w') (r : Option Nat) : w.grownBy w' r := ⟨h.below.os, h.below.tape, h.below.output, h.below.size, fun i hi _ => h.below.block i hi⟩
theorem grown_low {w w' : World} {r : Option Nat} {B : Nat} (h : w.grownBy w' r) (hB : B ≤ w.heap.size) (hr : ∀ g, r = some g → B ≤ g) : Below B w w' := (Below.refl B w).grown h hB hr
theorem Bx3.grown {w w' : World} {b : Nat} {r : Option Nat} {x y z : Value} (h : Bx3 w b x y z) (hg : w.grownBy w' r) (hr : r ≠ some b) : Bx3 w' b x y z := h.block (hg.block _ h.lt (fun e => hr e.symm))
theorem OwnV.own {w : World} {B : Nat} {e : TypeId} {A : Option Addr} {n c : Nat} {xs : List Value} (h : OwnV w B e A n c xs) : ∀ k, (Value.slice A n c).ownBlock = some k → B ≤ k ∧ k < w.heap.size := fun k hk => h.lt k hk
/- append(texts, text), the text laid in a new block first -/
theorem ap_strG {ops : Array Oper} {rest : List Oper} {o : Oper} {a : Act} {Q : Exit → Act → World → Prop} (w : World) (hgd : o.guard = none) (sl x : Operand)
    (ho : o.op = .call { callee := .builtin .append, args := #[sl, x], argTypes := #[60, 60] })
    (B : Nat) (A : Option Addr) (n c : Nat) (xs : List Value) (hs : a.eval sl = .slice A n c) (hown : OwnV w B 9 A n c xs) (s : ByteArray) (hx : a.eval x = .slice (some ⟨w.heap.size, 0, none⟩) 1 1) (hlen : n + 1 ≤ 1000000) (hB : B ≤ w.heap.size)
    (h : ∀ g c' w', OwnV w' B 9 (some ⟨g, 0, none⟩) (n + 1) c' (xs ++ [.string s]) → w.grownBy w' (Value.slice A n c).ownBlock → ((Value.slice A n c).ownBlock = some g ∨ w.heap.size ≤ g) → wpList Tryd.prog ops Q rest (a.put o.dst (.slice (some ⟨g, 0, none⟩) (n + 1) c')) w') :
    wpList Tryd.prog ops Q (o :: rest) a (w.alloc (.cells #[.string s] 9)) := by
  obtain ⟨i0, hi, hz0, hz1, hz2⟩ := info_parts info_str
  have hsz : (w.alloc (.cells #[.string s] 9)).heap.size = w.heap.size + 1 := by simp
  have hown2 := World.ownsRow.alloc hown (.cells #[.string s] 9)
  refine wpList_append_lies _ hgd sl x 60 ho B 9 i0 _ 1 16 Tryd.underlying60 hi hz0 hz1 hz2 rfl (by omega) (.slice A n c) n xs hs hown2 ⟨w.heap.size, 0, none⟩ 1 1 [.string s] hx rfl
    (World.news_of_block (cs := #[.string s]) (t := 9) (fr := (0, 0)) (heap_alloc_new w _)) (by simp [Value.oneCell']) (by omega) (by unfold maxLen; omega) (by omega) (by omega) (w.heap.size + 1) (by simp) ?_
  intro g cap w' g1 g2 g3 _
  have hgr : Gr w (w.alloc (.cells #[.string s] 9)) := (Gr.refl w).allocO _
  exact h g cap w' g1 (World.grownBy.trans (hgr.grown _) g2) (by rcases g3 with g3 | g3; exact .inl g3; exact .inr (by omega))
/- what appendTexts leaves behind, called in w with the row of block r -/
def AtPost (t : Ln.Tr) (B nr : Nat) (r : Option Nat) (acc : List (List UInt8)) (w : World) (e : Ending) (w' : World) : Prop :=
  w.grownBy w' r ∧ ((Ln.lsE (Ln.tl t) = 0 ∧ ∃ g c', e = .returned (.tuple #[.slice (some ⟨g, 0, none⟩) (nr + Ln.cnt t) c', .int .i64 0]) ∧ OwnV w' B 9 (some ⟨g, 0, none⟩) (nr + Ln.cnt t) c' (sc (acc ++ Ln.tx t)) ∧ (r = some g ∨ w.heap.size ≤ g)) ∨
    (Ln.lsE (Ln.tl t) ≠ 0 ∧ e = .returned (.tuple #[.slice none 0 0, .int .i64 (Ln.lsE (Ln.tl t))])))
set_option maxHeartbeats 4000000 in
set_option maxRecDepth 100000 in
theorem atexts_any (d : Nat) : ∀ (t : Ln.Tr) (A A2 : Option Addr) (n c n2 c2 B : Nat) (Ar : Option Addr) (nr cr : Nat) (acc : List (List UInt8)) (w : World), Tab w → B ≤ w.heap.size → 0 < B → 1 < B →
    Lns w B A n t.lines → Kds d w B A2 n2 t.kids → Ln.FitT t → Ln.pf t = true → nr + Ln.cnt t ≤ 1000000 → OwnV w B 9 Ar nr cr (sc acc) →
    Calls Tryd.prog 26 #[.slice Ar nr cr, .agg #[.string ⟨t.name.toArray⟩, .slice A n c, .slice A2 n2 c2]] w (AtPost t B nr (Value.slice Ar nr cr).ownBlock acc w) := by
  induction d using Nat.strongRecOn with
  | _ d ih =>
  intro t A A2 n c n2 c2 B Ar nr cr acc w hT hB hB1 hB2 hLs hK hF hp hb hown
  have HL1 := Lib.hid hLs.1
  have HL2 := Lib.hid hK.len
  have hce := Ln.cnt_eq t
  rw [hLs.1] at hce
  have hn2 : n2 ≤ 1000000 := by have := Ln.cnts_len t.kids; have := HL2.out; omega
  have hn1 : n ≤ 1000000 := by omega
  have hnr : nr + n + 2 + Ln.cnts t.kids ≤ 1000000 := by omega
  rw [Ln.pf_eq] at hp
  simp only [Bool.and_eq_true] at hp
  obtain ⟨hnm, _, hpk⟩ := hp
  have HE1 := Lib.hid (fun k h => Ln.tl_err1 (t := t) hnm k h)
  have HE2 := Lib.hid (fun h0 k h => Ln.tl_err2 (t := t) hnm h0 k h)
  have HE3 := Lib.hid (fun h0 h => Ln.tl_good (t := t) hnm h0 h)
  have HTX := Lib.hid (Ln.tx_eq t)
  have hFl := hF.l
  have hFk := hF.k
  have HPK := Lib.hid hpk
  have HCK := Lib.hid hnr
  have hnz : (ByteArray.mk t.name.toArray).size ≤ 100 := by rw [size_mk]; have := ((Ln.nameB_iff _).1 hnm).2.1; omega
  have hX1 : ((⟨#[66, 69, 71, 73, 78, 58]⟩ : ByteArray) ++ ⟨t.name.toArray⟩) = ⟨(Ln.bg ++ 58 :: t.name).toArray⟩ := str_ext (by rw [cat_str]; rfl)
  have hX2 : ((⟨#[69, 78, 68, 58]⟩ : ByteArray) ++ ⟨t.name.toArray⟩) = ⟨(Ln.en ++ 58 :: t.name).toArray⟩ := str_ext (by rw [cat_str]; rfl)
  have HX1 := Lib.hid hX1
  have HX2 := Lib.hid hX2
  unfold AtPost
  have hce2 : nr + Ln.cnt t = nr + 1 + n + Ln.cnts t.kids + 1 := by omega
  rw [hce2]
  clear hce hF hpk hnm hX1 hX2 hb hce2
  generalize Ln.lsE (Ln.tl t) = E at *
  generalize Ln.tx t = TX at *
  generalize (Ln.bg ++ 58 :: t.name) = tb at *
  generalize (Ln.en ++ 58 :: t.name) = te at *
  generalize (ByteArray.mk t.name.toArray) = nb at *
  generalize t.lines = ls at *
  generalize t.kids = ks at *
  have hg0 : Gr w (w.alloc (.cells #[.string nb, .slice A n c, .slice A2 n2 c2] 31)) := (Gr.refl w).allocO _
  have hx0 := Bx3.new w (.string nb) (.slice A n c) (.slice A2 n2 c2) 31
  have hown0 := hown.gr hg0
  have hsz0 : (w.alloc (.cells #[.string nb, .slice A n c, .slice A2 n2 c2] 31)).heap.size = w.heap.size + 1 := by simp
  have hbw0 : B ≤ (w.alloc (.cells #[.string nb, .slice A n c, .slice A2 n2 c2] 31)).heap.size := by omega
  obtain ⟨r, hr⟩ : ∃ r, (Value.slice Ar nr cr).ownBlock = r := ⟨_, rfl⟩
  have hrB : ∀ g, r = some g → B ≤ g ∧ g < w.heap.size := fun g hg => hown.own g (by rw [hr]; exact hg)
  rw [hr]
  have HR := Lib.hid hr
  clear hr
  go_enter Tryd.func26, Tryd.ntmps26
  go_wp2_with (at_builtin; go_must (refine ap_strG (w.alloc (.cells #[.string nb, .slice A n c, .slice A2 n2 c2] 31)) rfl (.tmp 13) (.tmp 17) rfl B Ar nr cr (sc acc) rfl hown0 ((⟨#[66, 69, 71, 73, 78, 58]⟩ : ByteArray) ++ nb) ?_ (by omega) hbw0 ?_; (show Value.slice (some ⟨w.heap.size + 1, 0, none⟩) 1 1 = _); rw [hsz0]; intro g1 c1 w1 hown1 hgw1 hgo1; rw [HR.out] at hgw1 hgo1; rw [HX1.out] at hown1; have hx1 := hx0.grown hgw1 (fun e => by have := hrB _ e; omega); obtain ⟨a0, a1, a2, a3, a4, a5⟩ := hx1))
  have hx0' := hx0
  generalize (w.alloc (.cells #[.string nb, .slice A n c, .slice A2 n2 c2] 31)) = W0 at *
  clear hown hown0 hx0
  have hx1 := hx0'.grown hgw1 (fun e => by have := hrB _ e; omega)
  go_loopg [0, 22] n (fun g v0 v22 wx => ∃ gx cx, ∃ k m : Nat, v0 = .slice (some ⟨gx, 0, none⟩) m cx ∧ v22 = .int .i64 (k : Int) ∧ k + g = n ∧ m = nr + 1 + k ∧ OwnV wx B 9 (some ⟨gx, 0, none⟩) m cx (sc (acc ++ tb :: (ls.take k).map Ln.pr)) ∧ W0.grownBy wx r ∧ (r = some gx ∨ W0.heap.size ≤ gx) ∧ Hid (Ln.lsE (ls.take k) = 0))
  case atStart => exact ⟨g1, c1, 0, nr + 1, rfl, rfl, by omega, rfl, by simpa [sc] using hown1, hgw1, hgo1, Lib.hid (by rw [List.take_zero]; rfl)⟩
  case round =>
    obtain ⟨gx, cx, k, m, rfl, rfl, hkg, hm, hownx, hgwx, hgox, HZ⟩ := hrel
    have HG := Lib.hid hkg
    have HM := Lib.hid hm
    clear hkg hm
    have hbx : Below B w wr := (hg0.low hB).trans (grown_low hgwx hbw0 (fun g hg => (hrB g hg).1))
    have hszr : W0.heap.size ≤ wr.heap.size := hgwx.size
    by_cases hk : k < n
    · obtain ⟨ad, hk', A', n', c', rfl, hbl, hc0, hc1, hc2, hP, hnc⟩ := (hLs.keep hbx).at_ hk
      have hfl := hFl _ (List.getElem_mem hk')
      have hg5 : Gr wr (wr.alloc (.cells #[.string ⟨ls[k].name.toArray⟩, .slice A' n' c', .string ⟨ls[k].value.toArray⟩] 48)) := (Gr.refl wr).allocO _
      have cP := print_any ⟨ls[k].name.toArray⟩ ⟨ls[k].value.toArray⟩ A' n' c' ls[k].ps _ ((hT.low hbx hB1 hB2).keep hg5) ((hP.keep (hg5.low (by omega))).more (by have := hg5.lt; omega)) hnc hfl.2.calm hfl.1.p2' (by rw [size_mk]; exact hfl.1.value) (fun hf => by rw [size_mk, size_mk]; have := hfl.w hf; omega)
      have e1 : (⟨(ByteArray.mk ls[k].name.toArray).data.toList, ls[k].ps, (ByteArray.mk ls[k].value.toArray).data.toList⟩ : Ln.Li) = ls[k] := rfl
      rw [e1] at cP
      have hst := Ln.lsE_one hk' HZ.out
      have HTK := Lib.hid (List.take_succ_eq_append_getElem hk')
      have hbx5 := hg5.low (B := B) (by omega)
      by_cases hpe : Ln.prE ls[k] = 0
      · have hpt : Ln.prT ls[k] = Ln.pr ls[k] := by unfold Ln.prT; rw [if_pos hpe]
        rw [hpe, hpt] at cP
        rw [hpe] at hst
        have HZ2 := Lib.hid hst
        have hm5 : m + 1 ≤ 1000000 := by have := HCK.out; have := HM.out; omega
        clear hst hpe hpt e1 HZ ih hfl
        generalize (ByteArray.mk ls[k].name.toArray) = nl at *
        generalize (ByteArray.mk ls[k].value.toArray) = vl at *
        go_wp2_with (first
          | (go_at_call 44; refine cP.mono ?_; rintro e w6 ⟨rfl, hg6⟩; have hgx := hg5.trans hg6)
          | (at_builtin; refine ap_strG w6 rfl (.tmp 34) (.tmp 36) rfl B (some ⟨gx, 0, none⟩) m cx _ rfl (hownx.gr hgx) (ByteArray.mk (Ln.pr ls[k]).toArray) rfl hm5 (by have := hgx.lt; omega) ?_; intro g7 c7 w7 hown7 hgw7 hgo7))
        go_roundg (n - (k + 1))
        case measure => have := HG.out; omega
        case rel =>
          have hgx' := grown_more (World.grownBy.trans hgwx (hgx.grown r)) hgw7 (fun g hg => by
            have : gx = g := by simpa [Value.ownBlock] using hg
            rw [← this]; exact hgox)
          refine ⟨g7, c7, k + 1, m + 1, rfl, by go_num, by omega, by have := HM.out; omega, ?_, hgx', ?_, HZ2⟩
          · rw [HTK.out, List.map_append, List.map_cons, List.map_nil, sc_more]; exact hown7
          · rcases hgo7 with h | h
            · have : gx = g7 := by simpa [Value.ownBlock] using h
              rw [← this]; exact hgox
            · exact .inr (by have := hgx.lt; omega)
      · have HE : Hid (E = Ln.prE ls[k]) := Lib.hid ((HE1.out (k + 1) (by rw [hst]; exact hpe)).trans hst)
        have HPE := Lib.hid hpe
        have hpe2 : (Ln.prE ls[k] != 0) = true := by simp [hpe]
        clear hst hpe e1 HZ ih hfl HE1 HE2 HE3
        generalize Ln.prE ls[k] = pe at *
        generalize (ByteArray.mk ls[k].name.toArray) = nl at *
        generalize (ByteArray.mk ls[k].value.toArray) = vl at *
        go_wp2_with (go_at_call 44; refine cP.mono ?_; rintro e w6 ⟨rfl, hg6⟩; have hgx := hg5.trans hg6)
        refine bodyPost_ret (v := .tuple #[.slice none 0 0, .int .i64 pe]) (by simp [results, Tryd.results26, go_sem]) rfl ?_
        exact ⟨World.grownBy.trans (hg0.grown r) (World.grownBy.trans hgwx (hgx.grown r)), .inr ⟨by rw [HE.out]; exact HPE.out, by rw [HE.out]⟩⟩
    · obtain rfl : k = n := by have := HG.out; omega
      have HZ1 := HZ.out
      rw [List.take_of_length_le (by rw [HL1.out]; exact Nat.le_refl _)] at HZ1 hownx
      have HZ1 := Lib.hid HZ1
      clear HZ HE1
      have hx3 := hx0'.grown hgwx (fun e => by have := hrB _ e; omega)
      obtain ⟨b0, b1, b2, b3, b4, b5⟩ := hx3
      go_wp2_with fail
      have hm1 := HM.out
      go_loopg [0, 42] n2 (fun g v0 v42 wx => ∃ gx cx, ∃ k2 m : Nat, v0 = .slice (some ⟨gx, 0, none⟩) m cx ∧ v42 = .int .i64 (k2 : Int) ∧ k2 + g = n2 ∧ Hid (m = nr + 1 + k + Ln.cnts (ks.take k2)) ∧ OwnV wx B 9 (some ⟨gx, 0, none⟩) m cx (sc (acc ++ tb :: (ls.map Ln.pr ++ (Ln.tls (ks.take k2)).map Ln.pr))) ∧ W0.grownBy wx r ∧ (r = some gx ∨ W0.heap.size ≤ gx) ∧ Hid (Ln.lsE (Ln.tls (ks.take k2)) = 0))
      case atStart => exact ⟨gx, cx, 0, m, rfl, rfl, by omega, Lib.hid (by rw [List.take_zero]; simp [Ln.cnts]; omega), by rw [List.take_zero]; simpa [Ln.tls] using hownx, hgwx, hgox, Lib.hid (by rw [List.take_zero]; rfl)⟩
      case round =>
        clear hownx hgwx hgox hbx hszr HM hm1 b0 b1 b2 b3 b4 b5
        obtain ⟨gx, cx, k2, m, rfl, rfl, hkg2, HM, hownx, hgwx, hgox, HZ⟩ := hrel
        have HG2 := Lib.hid hkg2
        clear hkg2
        have hbx : Below B w wr := (hg0.low hB).trans (grown_low hgwx hbw0 (fun g hg => (hrB g hg).1))
        have hszr : W0.heap.size ≤ wr.heap.size := hgwx.size
        by_cases hk2 : k2 < n2
        · obtain ⟨d', hd', ad, hk', A1, n1, c1, A3, n3, c3, rfl, hbl, hc0, hc1, hc2, hLn3, hKn⟩ := (hK.keep hbx).at_ hk2
          have hct := Ln.cnts_take ks k2 hk'
          have hle := Ln.cnts_le ks (k2 + 1)
          have hck := HCK.out
          have hmm := HM.out
          have hg5 : Gr wr (wr.alloc (.cells #[.string ⟨ks[k2].name.toArray⟩, .slice A1 n1 c1, .slice A3 n3 c3] 31)) := (Gr.refl wr).allocO _
          have hbx5 := hg5.low (B := B) (by omega)
          have hsz5 : (wr.alloc (.cells #[.string ⟨ks[k2].name.toArray⟩, .slice A1 n1 c1, .slice A3 n3 c3] 31)).heap.size = wr.heap.size + 1 := by simp
          have cK := ih d' hd' ks[k2] A1 A3 n1 c1 n3 c3 B (some ⟨gx, 0, none⟩) m cx _ _ ((hT.low hbx hB1 hB2).keep hg5) (by omega) hB1 hB2 (hLn3.keep hbx5) (Kds.keep hbx5 hKn) (hFk _ (List.getElem_mem hk')) (Ln.pfs_mem (List.getElem_mem hk') HPK.out) (by omega) (hownx.gr hg5)
          have hst := Ln.tls_err ks k2 hk' HZ.out
          have HTK := Lib.hid (Ln.tls_take ks k2 hk')
          have hob : (Value.slice (some ⟨gx, 0, none⟩) m cx).ownBlock = some gx := rfl
          rw [hob] at cK
          obtain ⟨q, hq⟩ : ∃ q, Ln.cnt ks[k2] = q := ⟨_, rfl⟩
          have HQ : Hid (m + q = nr + 1 + k + Ln.cnts (ks.take (k2 + 1))) := Lib.hid (by omega)
          unfold AtPost at cK
          rw [hq] at cK
          have HTX2 : Hid (Ln.tx ks[k2] = (Ln.tl ks[k2]).map Ln.pr) := Lib.hid rfl
          have HST := Lib.hid hst
          clear hct hle hck hmm hq hst ih hob
          generalize (ByteArray.mk ks[k2].name.toArray) = nk at *
          generalize Ln.lsE (Ln.tl ks[k2]) = F at *
          generalize Ln.tx ks[k2] = TK at *
          by_cases hF0 : F = 0
          · have cK := cK.mono (R' := fun e w' => (wr.alloc (.cells #[.string nk, .slice A1 n1 c1, .slice A3 n3 c3] 31)).grownBy w' (some gx) ∧ ∃ g c', e = .returned (.tuple #[.slice (some ⟨g, 0, none⟩) (m + q) c', .int .i64 0]) ∧ OwnV w' B 9 (some ⟨g, 0, none⟩) (m + q) c' (sc (acc ++ tb :: (ls.map Ln.pr ++ (Ln.tls (ks.take k2)).map Ln.pr) ++ TK)) ∧ (some gx = some g ∨ wr.heap.size ≤ g)) (by
              rintro e w' ⟨h1, ⟨_, g, c', h2, h3, h4⟩ | ⟨h2, _⟩⟩
              · exact ⟨h1, g, c', h2, h3, by rcases h4 with h4 | h4; exact .inl h4; exact .inr (by omega)⟩
              · exact absurd hF0 h2)
            have HZ2 : Hid (Ln.lsE (Ln.tls (ks.take (k2 + 1))) = 0) := Lib.hid (HST.out.trans hF0)
            clear hF0 HST HZ HE2 HE3
            go_wp2_with (go_at_call 26; refine cK.mono ?_; rintro e w7 ⟨hgw7, g7, c7, rfl, hown7, hgo7⟩)
            go_roundg (n2 - (k2 + 1))
            case measure => have := HG2.out; omega
            case rel =>
              have hgx' := grown_more (World.grownBy.trans hgwx (hg5.grown r)) hgw7 (fun g hg => by
                have : gx = g := by simpa using hg
                rw [← this]; exact hgox)
              refine ⟨g7, c7, k2 + 1, m + q, rfl, by go_num, by omega, HQ, ?_, hgx', ?_, HZ2⟩
              · rw [HTX2.out] at hown7
                rw [HTK.out, List.map_append]
                simpa only [List.append_assoc, List.cons_append] using hown7
              · rcases hgo7 with h | h
                · have : gx = g7 := by simpa using h
                  rw [← this]; exact hgox
                · exact .inr (by omega)
          · have cK := cK.mono (R' := fun e w' => (wr.alloc (.cells #[.string nk, .slice A1 n1 c1, .slice A3 n3 c3] 31)).grownBy w' (some gx) ∧ e = .returned (.tuple #[.slice none 0 0, .int .i64 F])) (by
              rintro e w' ⟨h1, ⟨h2, _⟩ | ⟨_, h2⟩⟩
              · exact absurd h2 hF0
              · exact ⟨h1, h2⟩)
            have HE : Hid (E = F) := Lib.hid ((HE2.out HZ1.out (k2 + 1) (by rw [HST.out]; exact hF0)).trans HST.out)
            have HF := Lib.hid hF0
            have hpe2 : (F != 0) = true := by simp [hF0]
            clear hF0 HST HZ HE2 HE3
            go_wp2_with (go_at_call 26; refine cK.mono ?_; rintro e w7 ⟨hgw7, rfl⟩)
            refine bodyPost_ret (v := .tuple #[.slice none 0 0, .int .i64 F]) (by simp [results, Tryd.results26, go_sem]) rfl ?_
            have hgx' := grown_more (World.grownBy.trans (World.grownBy.trans (hg0.grown r) hgwx) (hg5.grown r)) hgw7 (fun g hg => by
              have : gx = g := by simpa using hg
              rw [← this]
              rcases hgox with h | h
              · exact .inl h
              · exact .inr (by omega))
            exact ⟨hgx', .inr ⟨by rw [HE.out]; exact HF.out, by rw [HE.out]⟩⟩
        · obtain rfl : k2 = n2 := by have := HG2.out; omega
          have HZ2 := HZ.out
          have hmm := HM.out
          rw [List.take_of_length_le (by rw [HL2.out]; exact Nat.le_refl _)] at HZ2 hownx hmm
          have HE : Hid (E = 0) := Lib.hid (HE3.out HZ1.out HZ2)
          have hm5 : m + 1 ≤ 1000000 := by have := HCK.out; omega
          have HM2 := Lib.hid hmm
          have hx3 := hx0'.grown hgwx (fun e => by have := hrB _ e; omega)
          obtain ⟨b0, b1, b2, b3, b4, b5⟩ := hx3
          clear HZ HE2 HE3 HZ2 HM hmm
          go_wp2_with (at_builtin; refine ap_strG wr rfl (.tmp 56) (.tmp 60) rfl B (some ⟨gx, 0, none⟩) m cx _ rfl hownx ((⟨#[69, 78, 68, 58]⟩ : ByteArray) ++ nb) rfl hm5 (by omega) ?_; intro g7 c7 w7 hown7 hgw7 hgo7)
          refine bodyPost_ret (v := .tuple #[.slice (some ⟨g7, 0, none⟩) (m + 1) c7, .int .i64 0]) (by simp [results, Tryd.results26, go_sem]) rfl ?_
          have hgx' := grown_more (World.grownBy.trans (hg0.grown r) hgwx) hgw7 (fun g hg => by
            have : gx = g := by simpa [Value.ownBlock] using hg
            rw [← this]
            rcases hgox with h | h
            · exact .inl h
            · exact .inr (by omega))
          have hmq : nr + 1 + k + Ln.cnts ks + 1 = m + 1 := by have := HM2.out; omega
          refine ⟨hgx', .inl ⟨HE.out, g7, c7, by rw [hmq], ?_, ?_⟩⟩
          · rw [hmq, HTX.out]
            rw [HX2.out] at hown7
            have : sc (acc ++ tb :: (ls.map Ln.pr ++ ((Ln.tls ks).map Ln.pr ++ [te]))) = sc (acc ++ tb :: (ls.map Ln.pr ++ (Ln.tls ks).map Ln.pr)) ++ [.string ⟨te.toArray⟩] := by simp [sc]
            rw [this]; exact hown7
          · rcases hgo7 with h | h
            · have : gx = g7 := by simpa [Value.ownBlock] using h
              rw [← this]
              rcases hgox with h | h
              · exact .inl h
              · exact .inr (by omega)
            · exact .inr (by omega)
namespace Ln
theorem tx_short {t : Tr} (h : lsE (tl t) = 0) : ∀ x ∈ tx t, x.length ≤ 2000 := fun x hx => by
  obtain ⟨l, hl, rfl⟩ := List.mem_map.1 hx
  have := lsE_mem h hl
  rcases prE_cases l with ⟨g, _⟩ | ⟨g, _⟩ | ⟨_, _, _, g⟩
  · rw [g] at this; cases this
  · rw [g] at this; cases this
  · exact g
end Ln
set_option maxHeartbeats 4000000 in
set_option maxRecDepth 100000 in
theorem tprint_any (d : Nat) (t : Ln.Tr) (A A2 : Option Addr) (n c n2 c2 : Nat) (w : World) (hT : Tab w) (hLs : Lns w w.heap.size A n t.lines) (hK : Kds d w w.heap.size A2 n2 t.kids) (hR : Ln.RwT t) (hC : Ln.PC t) (hFt : Ln.fmT t = true → Ln.FitT t) :
    Calls Tryd.prog 10 #[.agg #[.string ⟨t.name.toArray⟩, .slice A n c, .slice A2 n2 c2]] w fun e w' => e = .returned (.tuple #[.string ⟨(Ln.ptT t).toArray⟩, .int .i64 (Ln.ptE t)]) ∧ Gr w w' := by
  have hg0 : Gr w (w.alloc (.cells #[.string ⟨t.name.toArray⟩, .slice A n c, .slice A2 n2 c2] 31)) := (Gr.refl w).allocO _
  have hx0 := Bx3.new w (.string ⟨t.name.toArray⟩) (.slice A n c) (.slice A2 n2 c2) 31
  have cF := tformed_any d t A A2 n c n2 c2 _ (hT.keep hg0) (hLs.gr hg0) (hK.gr hg0) hR hC
  cases hfm : Ln.fmT t
  · obtain ⟨e1, e2⟩ := Ln.pt_no hfm
    rw [hfm] at cF
    rw [e1, e2]
    clear hfm e1 e2 hFt hLs hK
    generalize (ByteArray.mk t.name.toArray) = nb at *
    go_enter Tryd.func10, Tryd.ntmps10
    go_wp2_with (go_at_call 12; refine cF.mono ?_; rintro e w1 ⟨rfl, hg1⟩)
    go_ret2
    exact ⟨rfl, hg0.trans hg1⟩
  · rw [hfm] at cF
    obtain ⟨_, h300, hpf⟩ := (Ln.fmT_iff t).1 hfm
    have hF := hFt hfm
    clear hFt
    have cA := fun w1 (h1 : Gr w w1) => atexts_any d t A A2 n c n2 c2 w1.heap.size none 0 0 [] w1 (hT.keep h1) (Nat.le_refl _) (hT.keep h1).lt.1 (hT.keep h1).lt.2 (hLs.gr h1) (hK.gr h1) hF hpf (by omega) (OwnV.nil _ _ _)
    have hln : (Ln.tx t).length = Ln.cnt t := by unfold Ln.tx; rw [List.length_map, Ln.tl_len]
    by_cases hz : Ln.lsE (Ln.tl t) = 0
    · obtain ⟨e1, e2⟩ := Ln.pt_fold hfm hz
      rw [e1, e2]
      have hsh := Ln.tx_short hz
      have cA := fun w1 (h1 : Gr w w1) => (cA w1 h1).mono (R' := fun e w' => ∃ A' n' c', e = .returned (.tuple #[.slice A' n' c', .int .i64 0]) ∧ Strs w' w'.heap.size A' n' (Ln.tx t) ∧ n' ≤ 300 ∧ Gr w1 w') (by
        rintro e w' ⟨h2, ⟨_, g, c', h3, h4, _⟩ | ⟨h3, _⟩⟩
        · refine ⟨_, _, c', h3, ?_, by omega, ⟨grown_low h2 (Nat.le_refl _) (fun g hg => by simp [Value.ownBlock] at hg)⟩⟩
          have := Strs.of_own h4
          simpa using this
        · exact absurd hz h3)
      have cL := fun w1 (h1 : Tab w1) A' n' c' (h2 : Strs w1 w1.heap.size A' n' (Ln.tx t)) (h3 : n' ≤ 300) => fold_any A' n' c' (Ln.tx t) w1 h1 h2 (by omega) (fun l hl => by have := hsh l hl; omega)
      clear hfm e1 e2 hF hLs hK hpf hz hsh hln
      generalize (ByteArray.mk t.name.toArray) = nb at *
      generalize Fd.foldT (Ln.tx t) = T at *
      generalize Fd.foldE (Ln.tx t) = E at *
      generalize Ln.tx t = TX at *
      go_enter Tryd.func10, Tryd.ntmps10
      go_wp2_with (first
        | (go_at_call 12; refine cF.mono ?_; rintro e w1 ⟨rfl, hg1⟩; obtain ⟨a0, a1, a2, a3, a4, a5⟩ := hx0.gr hg1)
        | (go_at_call 26; refine (cA _ (hg0.trans hg1)).mono ?_; rintro e w2 ⟨A', n', c', rfl, hS2, hn', hg2⟩)
        | (go_at_call 27; refine (cL _ (hT.keep ((hg0.trans hg1).trans hg2)) A' n' c' hS2 hn').mono ?_; rintro e w3 ⟨rfl, hg3⟩))
      go_ret2
      exact ⟨rfl, ((hg0.trans hg1).trans hg2).trans hg3⟩
    · obtain ⟨e1, e2⟩ := Ln.pt_line hfm hz
      rw [e1, e2]
      have hz2 : (Ln.lsE (Ln.tl t) != 0) = true := by simp [hz]
      have cA := fun w1 (h1 : Gr w w1) => (cA w1 h1).mono (R' := fun e w' => e = .returned (.tuple #[.slice none 0 0, .int .i64 (Ln.lsE (Ln.tl t))]) ∧ Gr w1 w') (by
        rintro e w' ⟨h2, ⟨h3, _⟩ | ⟨_, h3⟩⟩
        · exact absurd h3 hz
        · exact ⟨h3, ⟨grown_low h2 (Nat.le_refl _) (fun g hg => by simp [Value.ownBlock] at hg)⟩⟩)
      clear hfm e1 e2 hF hLs hK hpf hz hln
      generalize (ByteArray.mk t.name.toArray) = nb at *
      generalize Ln.lsE (Ln.tl t) = E at *
      go_enter Tryd.func10, Tryd.ntmps10
      go_wp2_with (first
        | (go_at_call 12; refine cF.mono ?_; rintro e w1 ⟨rfl, hg1⟩; obtain ⟨a0, a1, a2, a3, a4, a5⟩ := hx0.gr hg1)
        | (go_at_call 26; refine (cA _ (hg0.trans hg1)).mono ?_; rintro e w2 ⟨rfl, hg2⟩))
      go_ret2
      exact ⟨rfl, (hg0.trans hg1).trans hg2⟩
end Go.Proofs.YtbfngdpdgmgfpaaDoor
namespace Go.Proofs.YtbfngdpdgmgfpaaDoor
open Go.RowKit

namespace Ln
theorem li_eq {a b : Li} : a = b ↔ a.name = b.name ∧ a.value = b.value ∧ a.ps = b.ps := by
  cases a; cases b; simp; intro _; exact And.comm
theorem tr_eq {a b : Tr} : a = b ↔ a.name = b.name ∧ a.lines = b.lines ∧ a.kids = b.kids := by
  cases a; cases b; simp [Tr.name, Tr.lines, Tr.kids]
end Ln
set_option maxHeartbeats 4000000 in
theorem leqf_any (A A2 : Option Addr) (n c n2 c2 : Nat) (ls ms : List Ln.Li) (w : World) (hP : Lns w w.heap.size A n ls) (hQ : Lns w w.heap.size A2 n2 ms) (hn : n ≤ 140737488355328) (hv : ∀ l ∈ ls, Ln.Rw l) (q : Bool) (hq : q = true ↔ ls = ms) :
    Calls Tryd.prog 37 #[.slice A n c, .slice A2 n2 c2, .func (.func 21) #[] #[]] w fun e w' => e = .returned (.bool q) ∧ Gr w w' := by
  have hl : ls.length = n := hP.1
  have hl2 : ms.length = n2 := hQ.1
  by_cases hnn : n = n2
  · subst hnn
    have HL := Lib.hid (And.intro hl hl2)
    have HQ := Lib.hid hq
    clear hl hl2 hq
    go_enter Tryd.func37, Tryd.ntmps37
    go_wp2
    go_loopg [17] n (fun g v wx => ∃ k : Nat, v = .int .i64 (k : Int) ∧ k + g = n ∧ Gr w wx ∧ Hid (ls.take k = ms.take k))
    case atStart => exact ⟨0, rfl, by omega, Gr.refl _, Lib.hid (by simp)⟩
    case round =>
      obtain ⟨k, rfl, hkg, hg, HT⟩ := hrel
      have HG := Lib.hid hkg
      clear hkg
      by_cases hk : k < n
      · obtain ⟨ad, hk', A', n', c', rfl, hbl, hc0, hc1, hc2, hpp, hnc⟩ := (hP.gr hg).at_ hk
        obtain ⟨ad2, hk2, A2', n2', c2', rfl, hbl2, hd0, hd1, hd2, hpq, hnc2⟩ := (hQ.gr hg).at_ hk
        have hgA : Gr wr (wr.alloc (.cells #[.string ⟨ls[k].name.toArray⟩, .slice A' n' c', .string ⟨ls[k].value.toArray⟩] 48)) := (Gr.refl wr).allocO _
        have hgB : Gr wr ((wr.alloc (.cells #[.string ⟨ls[k].name.toArray⟩, .slice A' n' c', .string ⟨ls[k].value.toArray⟩] 48)).alloc (.cells #[.string ⟨ms[k].name.toArray⟩, .slice A2' n2' c2', .string ⟨ms[k].value.toArray⟩] 48)) := hgA.allocO _
        have he0 := gr_cell0 hgA hd0
        have he1 := gr_cell0 hgA hd1
        have he2 := gr_cell0 hgA hd2
        have hxA := (Bx3.new wr (.string ⟨ls[k].name.toArray⟩) (.slice A' n' c') (.string ⟨ls[k].value.toArray⟩) 48).gr ((Gr.refl _).allocO (.cells #[.string ⟨ms[k].name.toArray⟩, .slice A2' n2' c2', .string ⟨ms[k].value.toArray⟩] 48))
        have hgW := hg.trans hgB
        have hrw := hv _ (List.getElem_mem hk')
        have cE := fun (q : Bool) (hq : q = true ↔ ls[k] = ms[k]) => equal_any ⟨ls[k].name.toArray⟩ ⟨ls[k].value.toArray⟩ ⟨ms[k].name.toArray⟩ ⟨ms[k].value.toArray⟩ A' A2' n' c' n2' c2' ls[k].ps ms[k].ps _ (hpp.gr hgB) (hpq.gr hgB) (by rw [← hpp.1]; have := hrw.num; omega) hrw.p2' q (by rw [hq, Ln.li_eq])
        have HT1 := Lib.hid (List.take_succ_eq_append_getElem hk')
        have HT2 := Lib.hid (List.take_succ_eq_append_getElem hk2)
        have HX := Lib.hid (fun (h : ls = ms) => show ls[k] = ms[k] by subst h; rfl)
        have x0 := hxA.c0
        have x1 := hxA.c1
        have x2 := hxA.c2
        by_cases he : ls[k] = ms[k]
        · have cE1 := cE true ⟨fun _ => he, fun _ => rfl⟩
          have HE : Hid (ls.take (k + 1) = ms.take (k + 1)) := Lib.hid (by rw [HT1.out, HT2.out, HT.out, he])
          clear he HX HT1 HT2 cE hxA
          generalize (ByteArray.mk ls[k].name.toArray) = s1 at *
          generalize (ByteArray.mk ms[k].name.toArray) = s2 at *
          generalize (ByteArray.mk ls[k].value.toArray) = u1 at *
          generalize (ByteArray.mk ms[k].value.toArray) = u2 at *
          go_wp2_with (go_at_call 21; refine cE1.mono ?_; rintro e w1 ⟨rfl, hg1⟩)
          go_roundg (n - (k + 1))
          case measure => have := HG.out; omega
          case rel => exact ⟨k + 1, by go_num, by omega, hgW.trans hg1, HE⟩
        · have cE1 := cE false ⟨fun h => (by cases h), fun h => absurd h he⟩
          have HE : Hid (q = false) := Lib.hid (by
            cases hc : q
            · rfl
            · exact absurd (HX.out (HQ.out.1 hc)) he)
          clear he HX HT1 HT2 cE hxA
          generalize (ByteArray.mk ls[k].name.toArray) = s1 at *
          generalize (ByteArray.mk ms[k].name.toArray) = s2 at *
          generalize (ByteArray.mk ls[k].value.toArray) = u1 at *
          generalize (ByteArray.mk ms[k].value.toArray) = u2 at *
          go_wp2_with (go_at_call 21; refine cE1.mono ?_; rintro e w1 ⟨rfl, hg1⟩)
          go_ret
          exact ⟨ret_bool HE.out.symm, hgW.trans hg1⟩
      · obtain rfl : k = n := by have := HG.out; omega
        have HE : Hid (q = true) := Lib.hid (HQ.out.2 (by
          have h := HT.out
          rwa [List.take_of_length_le (by rw [HL.out.1]; exact Nat.le_refl _), List.take_of_length_le (by rw [HL.out.2]; exact Nat.le_refl _)] at h))
        go_wp2
        go_ret
        exact ⟨ret_bool HE.out.symm, hg⟩
  · have HE : Hid (q = false) := Lib.hid (by
      cases hc : q
      · rfl
      · exact absurd (by rw [← hl, ← hl2, hq.1 hc]) hnn)
    have hne : ((n : Int) == (n2 : Int)) = false := by rw [beq_eq_false_iff_ne]; omega
    clear hl hl2 hq hnn
    go_enter Tryd.func37, Tryd.ntmps37
    go_wp2
    go_ret
    exact ⟨ret_bool HE.out.symm, Gr.refl _⟩
def EqAt (d : Nat) : Prop := ∀ (t u : Ln.Tr) (A A2 B B2 : Option Addr) (n c n2 c2 m e m2 e2 d2 : Nat) (w : World), Lns w w.heap.size A n t.lines → Lns w w.heap.size A2 n2 u.lines → Kds d w w.heap.size B m t.kids → Kds d2 w w.heap.size B2 m2 u.kids → Ln.RwT t → ∀ q : Bool, (q = true ↔ t = u) →
    Calls Tryd.prog 19 #[.agg #[.string ⟨t.name.toArray⟩, .slice A n c, .slice B m e], .agg #[.string ⟨u.name.toArray⟩, .slice A2 n2 c2, .slice B2 m2 e2]] w fun e w' => e = .returned (.bool q) ∧ Gr w w'
set_option maxHeartbeats 4000000 in
theorem keqf_any (d d2 : Nat) (ih : ∀ d', d' < d → EqAt d') (A A2 : Option Addr) (n c n2 c2 : Nat) (ls ms : List Ln.Tr) (w : World) (hP : Kds d w w.heap.size A n ls) (hQ : Kds d2 w w.heap.size A2 n2 ms) (hn : n ≤ 140737488355328) (hv : ∀ l ∈ ls, Ln.RwT l) (q : Bool) (hq : q = true ↔ ls = ms) :
    Calls Tryd.prog 38 #[.slice A n c, .slice A2 n2 c2, .func (.func 19) #[] #[]] w fun e w' => e = .returned (.bool q) ∧ Gr w w' := by
  have hl : ls.length = n := hP.len
  have hl2 : ms.length = n2 := hQ.len
  by_cases hnn : n = n2
  · subst hnn
    have HL := Lib.hid (And.intro hl hl2)
    have HQ := Lib.hid hq
    clear hl hl2 hq
    go_enter Tryd.func38, Tryd.ntmps38
    go_wp2
    go_loopg [17] n (fun g v wx => ∃ k : Nat, v = .int .i64 (k : Int) ∧ k + g = n ∧ Gr w wx ∧ Hid (ls.take k = ms.take k))
    case atStart => exact ⟨0, rfl, by omega, Gr.refl _, Lib.hid (by simp)⟩
    case round =>
      obtain ⟨k, rfl, hkg, hg, HT⟩ := hrel
      have HG := Lib.hid hkg
      clear hkg
      by_cases hk : k < n
      · obtain ⟨d', hd', ad, hk', A', n', c', B', m', e', rfl, hbl, hc0, hc1, hc2, hpp, hkp⟩ := (hP.gr hg).at_ hk
        obtain ⟨d2', hd2', ad2, hk2, A2', n2', c2', B2', m2', e2', rfl, hbl2, hd0, hd1, hd2, hpq, hkq⟩ := (hQ.gr hg).at_ hk
        have hgA : Gr wr (wr.alloc (.cells #[.string ⟨ls[k].name.toArray⟩, .slice A' n' c', .slice B' m' e'] 31)) := (Gr.refl wr).allocO _
        have hgB : Gr wr ((wr.alloc (.cells #[.string ⟨ls[k].name.toArray⟩, .slice A' n' c', .slice B' m' e'] 31)).alloc (.cells #[.string ⟨ms[k].name.toArray⟩, .slice A2' n2' c2', .slice B2' m2' e2'] 31)) := hgA.allocO _
        have he0 := gr_cell0 hgA hd0
        have he1 := gr_cell0 hgA hd1
        have he2 := gr_cell0 hgA hd2
        have hxA := (Bx3.new wr (.string ⟨ls[k].name.toArray⟩) (.slice A' n' c') (.slice B' m' e') 31).gr ((Gr.refl _).allocO (.cells #[.string ⟨ms[k].name.toArray⟩, .slice A2' n2' c2', .slice B2' m2' e2'] 31))
        have hgW := hg.trans hgB
        have cE := fun (q : Bool) (hq : q = true ↔ ls[k] = ms[k]) => ih d' hd' ls[k] ms[k] A' A2' B' B2' n' c' n2' c2' m' e' m2' e2' d2' _ (hpp.gr hgB) (hpq.gr hgB) (hkp.gr hgB) (hkq.gr hgB) (hv _ (List.getElem_mem hk')) q hq
        have HT1 := Lib.hid (List.take_succ_eq_append_getElem hk')
        have HT2 := Lib.hid (List.take_succ_eq_append_getElem hk2)
        have HX := Lib.hid (fun (h : ls = ms) => show ls[k] = ms[k] by subst h; rfl)
        have x0 := hxA.c0
        have x1 := hxA.c1
        have x2 := hxA.c2
        by_cases he : ls[k] = ms[k]
        · have cE1 := cE true ⟨fun _ => he, fun _ => rfl⟩
          have HE : Hid (ls.take (k + 1) = ms.take (k + 1)) := Lib.hid (by rw [HT1.out, HT2.out, HT.out, he])
          clear he HX HT1 HT2 cE hxA
          generalize (ByteArray.mk ls[k].name.toArray) = s1 at *
          generalize (ByteArray.mk ms[k].name.toArray) = s2 at *
          go_wp2_with (go_at_call 19; refine cE1.mono ?_; rintro e w1 ⟨rfl, hg1⟩)
          go_roundg (n - (k + 1))
          case measure => have := HG.out; omega
          case rel => exact ⟨k + 1, by go_num, by omega, hgW.trans hg1, HE⟩
        · have cE1 := cE false ⟨fun h => (by cases h), fun h => absurd h he⟩
          have HE : Hid (q = false) := Lib.hid (by
            cases hc : q
            · rfl
            · exact absurd (HX.out (HQ.out.1 hc)) he)
          clear he HX HT1 HT2 cE hxA
          generalize (ByteArray.mk ls[k].name.toArray) = s1 at *
          generalize (ByteArray.mk ms[k].name.toArray) = s2 at *
          go_wp2_with (go_at_call 19; refine cE1.mono ?_; rintro e w1 ⟨rfl, hg1⟩)
          go_ret
          exact ⟨ret_bool HE.out.symm, hgW.trans hg1⟩
      · obtain rfl : k = n := by have := HG.out; omega
        have HE : Hid (q = true) := Lib.hid (HQ.out.2 (by
          have h := HT.out
          rwa [List.take_of_length_le (by rw [HL.out.1]; exact Nat.le_refl _), List.take_of_length_le (by rw [HL.out.2]; exact Nat.le_refl _)] at h))
        go_wp2
        go_ret
        exact ⟨ret_bool HE.out.symm, hg⟩
  · have HE : Hid (q = false) := Lib.hid (by
      cases hc : q
      · rfl
      · exact absurd (by rw [← hl, ← hl2, hq.1 hc]) hnn)
    have hne : ((n : Int) == (n2 : Int)) = false := by rw [beq_eq_false_iff_ne]; omega
    clear hl hl2 hq hnn
    go_enter Tryd.func38, Tryd.ntmps38
    go_wp2
    go_ret
    exact ⟨ret_bool HE.out.symm, Gr.refl _⟩
set_option maxHeartbeats 4000000 in
theorem tequal_any (d : Nat) : EqAt d := by
  induction d using Nat.strongRecOn with
  | _ d ih =>
  intro t u A A2 B B2 n c n2 c2 m e m2 e2 d2 w hP hQ hK hL hF q hq
  have hg1 : Gr w ((w.alloc (.cells #[.string ⟨t.name.toArray⟩, .slice A n c, .slice B m e] 31)).alloc (.cells #[.string ⟨u.name.toArray⟩, .slice A2 n2 c2, .slice B2 m2 e2] 31)) := ((Gr.refl w).allocO _).allocO _
  have hx1 := (Bx3.new w (.string ⟨t.name.toArray⟩) (.slice A n c) (.slice B m e) 31).gr ((Gr.refl _).allocO (.cells #[.string ⟨u.name.toArray⟩, .slice A2 n2 c2, .slice B2 m2 e2] 31))
  have hx2 := Bx3.new (w.alloc (.cells #[.string ⟨t.name.toArray⟩, .slice A n c, .slice B m e] 31)) (.string ⟨u.name.toArray⟩) (.slice A2 n2 c2) (.slice B2 m2 e2) 31
  have z1 : (w.alloc (.cells #[.string ⟨t.name.toArray⟩, .slice A n c, .slice B m e] 31)).heap.size = w.heap.size + 1 := by simp
  rw [z1] at hx2
  clear z1
  obtain ⟨_, hz1, hz2⟩ := hF.q
  rw [hP.1] at hz1
  rw [hK.len] at hz2
  have hqq := hq.trans Ln.tr_eq
  have cL := fun (q : Bool) (hq : q = true ↔ t.lines = u.lines) => leqf_any A A2 n c n2 c2 t.lines u.lines _ (hP.gr hg1) (hQ.gr hg1) (by omega) hF.l q hq
  have cK := fun w1 (h1 : Gr w w1) (q : Bool) (hq : q = true ↔ t.kids = u.kids) => keqf_any d d2 ih B B2 m e m2 e2 t.kids u.kids w1 (hK.gr h1) (hL.gr h1) (by omega) hF.k q hq
  by_cases h1 : t.name = u.name
  · have hs1 : ((ByteArray.mk t.name.toArray).toList == (ByteArray.mk u.name.toArray).toList) = true := str_eq ⟨fun _ => h1, fun _ => rfl⟩
    by_cases h2 : t.lines = u.lines
    · have cL1 := cL true ⟨fun _ => h2, fun _ => rfl⟩
      have cK1 := fun w1 (g1 : Gr w w1) => cK w1 g1 q (by rw [hqq]; exact ⟨fun h => h.2.2, fun h => ⟨h1, h2, h⟩⟩)
      clear cL cK hqq hq h1 h2 hP hQ hK hL hF ih
      generalize (ByteArray.mk t.name.toArray) = s1 at *
      generalize (ByteArray.mk u.name.toArray) = s2 at *
      go_enter Tryd.func19, Tryd.ntmps19
      go_wp2_with (first
        | (go_at_call 37; refine cL1.mono ?_; rintro e w1 ⟨rfl, hg2⟩; have a2 := (hx1.gr hg2).c2; have b2 := (hx2.gr hg2).c2)
        | (go_at_call 38; refine (cK1 _ (hg1.trans hg2)).mono ?_; rintro e w2 ⟨rfl, hg3⟩))
      go_ret
      exact ⟨rfl, (hg1.trans hg2).trans hg3⟩
    · have cL1 := cL false ⟨fun h => (by cases h), fun h => absurd h h2⟩
      have HE : Hid (q = false) := Lib.hid (by
        cases hc : q
        · rfl
        · exact absurd (hqq.1 hc).2.1 h2)
      clear cL cK hqq hq h1 h2 hP hQ hK hL hF ih
      generalize (ByteArray.mk t.name.toArray) = s1 at *
      generalize (ByteArray.mk u.name.toArray) = s2 at *
      go_enter Tryd.func19, Tryd.ntmps19
      go_wp2_with (go_at_call 37; refine cL1.mono ?_; rintro e w1 ⟨rfl, hg2⟩)
      go_ret
      exact ⟨ret_bool HE.out.symm, hg1.trans hg2⟩
  · have hs1 : ((ByteArray.mk t.name.toArray).toList == (ByteArray.mk u.name.toArray).toList) = false := str_eq ⟨fun h => (by cases h), fun h => absurd h h1⟩
    have HE : Hid (q = false) := Lib.hid (by
      cases hc : q
      · rfl
      · exact absurd (hqq.1 hc).1 h1)
    clear cL cK hqq hq h1 hP hQ hK hL hF ih
    generalize (ByteArray.mk t.name.toArray) = s1 at *
    generalize (ByteArray.mk u.name.toArray) = s2 at *
    go_enter Tryd.func19, Tryd.ntmps19
    go_wp2
    go_ret
    exact ⟨ret_bool HE.out.symm, hg1⟩
end Go.Proofs.YtbfngdpdgmgfpaaDoor
namespace Go.Proofs.YtbfngdpdgmgfpaaDoor
open Go.RowKit

set_option maxHeartbeats 8000000 in
set_option maxRecDepth 100000 in
theorem tsame_any (d : Nat) : ∀ (t u : Ln.Tr) (A A2 B B2 : Option Addr) (n c n2 c2 m e m2 e2 d2 : Nat) (w : World), Lns w w.heap.size A n t.lines → Lns w w.heap.size A2 n2 u.lines → Kds d w w.heap.size B m t.kids → Kds d2 w w.heap.size B2 m2 u.kids → Ln.RwT t → ∀ q : Bool, (q = true ↔ t = u) →
    Calls Tryd.prog 17 #[.agg #[.string ⟨t.name.toArray⟩, .slice A n c, .slice B m e], .agg #[.string ⟨u.name.toArray⟩, .slice A2 n2 c2, .slice B2 m2 e2]] w fun e w' => e = .returned (.bool q) ∧ Gr w w' := by
  induction d using Nat.strongRecOn with
  | _ d ih =>
  intro t u A A2 B B2 n c n2 c2 m e m2 e2 d2 w hP hQ hK hL hF q hq
  have hg1 : Gr w ((w.alloc (.cells #[.string ⟨t.name.toArray⟩, .slice A n c, .slice B m e] 25)).alloc (.cells #[.string ⟨u.name.toArray⟩, .slice A2 n2 c2, .slice B2 m2 e2] 25)) := ((Gr.refl w).allocO _).allocO _
  have hx1 := (Bx3.new w (.string ⟨t.name.toArray⟩) (.slice A n c) (.slice B m e) 25).gr ((Gr.refl _).allocO (.cells #[.string ⟨u.name.toArray⟩, .slice A2 n2 c2, .slice B2 m2 e2] 25))
  have hx2 := Bx3.new (w.alloc (.cells #[.string ⟨t.name.toArray⟩, .slice A n c, .slice B m e] 25)) (.string ⟨u.name.toArray⟩) (.slice A2 n2 c2) (.slice B2 m2 e2) 25
  have z1 : (w.alloc (.cells #[.string ⟨t.name.toArray⟩, .slice A n c, .slice B m e] 25)).heap.size = w.heap.size + 1 := by simp
  rw [z1] at hx2
  clear z1
  obtain ⟨_, hz1, hz2⟩ := hF.q
  rw [hP.1] at hz1
  rw [hK.len] at hz2
  have hqq := hq.trans Ln.tr_eq
  have hl1 := hP.1
  have hl2 := hQ.1
  have hl3 := hK.len
  have hl4 := hL.len
  have hFl := hF.l
  have hFk := hF.k
  have hn : n ≤ 140737488355328 := by omega
  have hm : m ≤ 140737488355328 := by omega
  by_cases h1 : t.name = u.name
  · have hs1 : ((ByteArray.mk t.name.toArray).toList == (ByteArray.mk u.name.toArray).toList) = true := str_eq ⟨fun _ => h1, fun _ => rfl⟩
    by_cases hnn : n = n2
    · by_cases hmm : m = m2
      · subst hnn hmm
        have HL := Lib.hid (And.intro hl1 (And.intro hl2 (And.intro hl3 hl4)))
        have HQ := Lib.hid (show q = true ↔ t.lines = u.lines ∧ t.kids = u.kids by rw [hqq]; exact ⟨fun h => h.2, fun h => ⟨h1, h⟩⟩)
        clear hl1 hl2 hl3 hl4 hqq hq h1 hF
        generalize (ByteArray.mk t.name.toArray) = s1 at *
        generalize (ByteArray.mk u.name.toArray) = s2 at *
        generalize t.lines = ls at *
        generalize u.lines = ms at *
        generalize t.kids = ks at *
        generalize u.kids = js at *
        go_enter Tryd.func17, Tryd.ntmps17
        go_wp2
        generalize (w.alloc (.cells #[.string s1, .slice A n c, .slice B m e] 25)).alloc (.cells #[.string s2, .slice A2 n c2, .slice B2 m e2] 25) = w0 at *
        go_loopg [33] n (fun g v wx => ∃ k : Nat, v = .int .i64 (k : Int) ∧ k + g = n ∧ Gr w0 wx ∧ Hid (ls.take k = ms.take k))
        case atStart => exact ⟨0, rfl, by omega, Gr.refl _, Lib.hid (by simp)⟩
        case round =>
          obtain ⟨k, rfl, hkg, hg, HT⟩ := hrel
          have HG := Lib.hid hkg
          clear hkg
          have hgW := hg1.trans hg
          have hx1r := hx1.gr hg
          have hx2r := hx2.gr hg
          by_cases hk : k < n
          · obtain ⟨ad, hk', A', n', c', rfl, hbl, hc0, hc1, hc2, hpp, hnc⟩ := (hP.gr hgW).at_ hk
            obtain ⟨ad2, hk2, A2', n2', c2', rfl, hbl2, hd0, hd1, hd2, hpq, hnc2⟩ := (hQ.gr hgW).at_ hk
            have hrw := hFl _ (List.getElem_mem hk')
            have cE := fun w1 (p1 : Pars w1 w1.heap.size A' n' ls[k].ps) (p2 : Pars w1 w1.heap.size A2' n2' ms[k].ps) (q : Bool) (hq : q = true ↔ ls[k] = ms[k]) => same10_any ⟨ls[k].name.toArray⟩ ⟨ls[k].value.toArray⟩ ⟨ms[k].name.toArray⟩ ⟨ms[k].value.toArray⟩ A' A2' n' c' n2' c2' ls[k].ps ms[k].ps w1 p1 p2 (by rw [← hpp.1]; have := hrw.num; omega) hrw.p2' q (by rw [hq, Ln.li_eq])
            have HT1 := Lib.hid (List.take_succ_eq_append_getElem hk')
            have HT2 := Lib.hid (List.take_succ_eq_append_getElem hk2)
            have HX := Lib.hid (fun (h : ls = ms) => show ls[k] = ms[k] by subst h; rfl)
            have b0 := after_cell hc0
            have b1 := after_cell hc1
            have b2 := after_cell hc2
            have d0 := after_cell hd0
            have d1 := after_cell hd1
            have d2 := after_cell hd2
            have f0 := after_cell hx1r.c1
            have f1 := after_cell hx2r.c1
            have hkn : (k : Int) < (n : Int) := by omega
            by_cases he : ls[k] = ms[k]
            · have cE1 := fun w1 p1 p2 => cE w1 p1 p2 true ⟨fun _ => he, fun _ => rfl⟩
              have HE : Hid (ls.take (k + 1) = ms.take (k + 1)) := Lib.hid (by rw [HT1.out, HT2.out, HT.out, he])
              clear he HX HT1 HT2 cE hx1r hx2r ih
              generalize (ByteArray.mk ls[k].name.toArray) = t1 at *
              generalize (ByteArray.mk ms[k].name.toArray) = t2 at *
              generalize (ByteArray.mk ls[k].value.toArray) = u1 at *
              generalize (ByteArray.mk ms[k].value.toArray) = u2 at *
              go_wp2
              refine wp_region_after (by kernel_rfl) (by kernel_rfl) ?_
              repeat (go_big_quiet_step (first | (go_at_call 22; exact qafter (cE1 _ (hpp.gr (by exact (After.gr _))) (hpq.gr (by exact (After.gr _)))))))
              refine wpQuiet_nil ?_
              rintro _ ⟨⟨w6, hg6⟩, rfl⟩
              go_wp2
              go_roundg (n - (k + 1))
              case measure => have := HG.out; omega
              case rel => exact ⟨k + 1, by go_num, by omega, hg.trans hg6, HE⟩
            · have cE1 := fun w1 p1 p2 => cE w1 p1 p2 false ⟨fun h => (by cases h), fun h => absurd h he⟩
              have HE : Hid (q = false) := Lib.hid (by
                cases hc : q
                · rfl
                · exact absurd (HX.out (HQ.out.1 hc).1) he)
              clear he HX HT1 HT2 cE hx1r hx2r ih
              generalize (ByteArray.mk ls[k].name.toArray) = t1 at *
              generalize (ByteArray.mk ms[k].name.toArray) = t2 at *
              generalize (ByteArray.mk ls[k].value.toArray) = u1 at *
              generalize (ByteArray.mk ms[k].value.toArray) = u2 at *
              go_wp2
              refine wp_region_after (by kernel_rfl) (by kernel_rfl) ?_
              repeat (go_big_quiet_step (first | (go_at_call 22; exact qafter (cE1 _ (hpp.gr (by exact (After.gr _))) (hpq.gr (by exact (After.gr _)))))))
              refine wpQuiet_nil ?_
              rintro _ ⟨⟨w6, hg6⟩, rfl⟩
              go_wp2
              go_ret
              exact ⟨ret_bool HE.out.symm, hgW.trans hg6⟩
          · obtain rfl : k = n := by have := HG.out; omega
            have HA : Hid (ls = ms) := Lib.hid (by
              have h := HT.out
              rwa [List.take_of_length_le (by rw [HL.out.1]; exact Nat.le_refl _), List.take_of_length_le (by rw [HL.out.2.1]; exact Nat.le_refl _)] at h)
            obtain ⟨a0, a1, a2, a3, a4, a5⟩ := hx1r
            go_wp2_with fail
            obtain ⟨w5, hw5⟩ : ∃ w5, wr = w5 := ⟨_, rfl⟩
            have hgA := hgW
            have hxA := hx1.gr hg
            have hxB := hx2r
            rw [hw5] at hgA hxA hxB
            go_loopg [52] m (fun g v wx => ∃ k : Nat, v = .int .i64 (k : Int) ∧ k + g = m ∧ Gr w5 wx ∧ Hid (ks.take k = js.take k))
            case atStart => exact ⟨0, rfl, by omega, by rw [hw5]; exact Gr.refl _, Lib.hid (by simp)⟩
            case round =>
              obtain ⟨k2, rfl, hkg2, hg7, HT2⟩ := hrel
              have HG2 := Lib.hid hkg2
              clear hkg2 a0 a1 a2 a3 a4 a5
              have hg8 := hgA.trans hg7
              have hx1r := hxA.gr hg7
              have hx2r := hxB.gr hg7
              by_cases hk2 : k2 < m
              · obtain ⟨d', hd', ad, hk', A', n', c', B', m', e', rfl, hbl, hc0, hc1, hc2, hpp, hkp⟩ := (hK.gr hg8).at_ hk2
                obtain ⟨d2', hd2', ad2, hk2', A2', n2', c2', B2', m2', e2', rfl, hbl2, hd0, hd1, hd2, hpq, hkq⟩ := (hL.gr hg8).at_ hk2
                have cE := fun w1 (g1 : Gr wr w1) (q : Bool) (hq : q = true ↔ ks[k2] = js[k2]) => ih d' hd' ks[k2] js[k2] A' A2' B' B2' n' c' n2' c2' m' e' m2' e2' d2' w1 (hpp.gr g1) (hpq.gr g1) (hkp.gr g1) (hkq.gr g1) (hFk _ (List.getElem_mem hk')) q hq
                have HT3 := Lib.hid (List.take_succ_eq_append_getElem hk')
                have HT4 := Lib.hid (List.take_succ_eq_append_getElem hk2')
                have HX := Lib.hid (fun (h : ks = js) => show ks[k2] = js[k2] by subst h; rfl)
                have b0 := after_cell hc0
                have b1 := after_cell hc1
                have b2 := after_cell hc2
                have d0 := after_cell hd0
                have d1 := after_cell hd1
                have d2 := after_cell hd2
                have f0 := after_cell hx1r.c2
                have f1 := after_cell hx2r.c2
                have hkn : (k2 : Int) < (m : Int) := by omega
                by_cases he : ks[k2] = js[k2]
                · have cE1 := fun w1 g1 => cE w1 g1 true ⟨fun _ => he, fun _ => rfl⟩
                  have HE : Hid (ks.take (k2 + 1) = js.take (k2 + 1)) := Lib.hid (by rw [HT3.out, HT4.out, HT2.out, he])
                  clear he HX HT3 HT4 cE hx1r hx2r ih
                  generalize (ByteArray.mk ks[k2].name.toArray) = t1 at *
                  generalize (ByteArray.mk js[k2].name.toArray) = t2 at *
                  go_wp2
                  refine wp_region_after (by kernel_rfl) (by kernel_rfl) ?_
                  repeat (go_big_quiet_step (first | (go_at_call 17; exact qafter (cE1 _ (by exact (After.gr _))))))
                  refine wpQuiet_nil ?_
                  rintro _ ⟨⟨w6, hg6⟩, rfl⟩
                  go_wp2
                  go_roundg (m - (k2 + 1))
                  case measure => have := HG2.out; omega
                  case rel => exact ⟨k2 + 1, by go_num, by omega, hg7.trans hg6, HE⟩
                · have cE1 := fun w1 g1 => cE w1 g1 false ⟨fun h => (by cases h), fun h => absurd h he⟩
                  have HE : Hid (q = false) := Lib.hid (by
                    cases hc : q
                    · rfl
                    · exact absurd (HX.out (HQ.out.1 hc).2) he)
                  clear he HX HT3 HT4 cE hx1r hx2r ih
                  generalize (ByteArray.mk ks[k2].name.toArray) = t1 at *
                  generalize (ByteArray.mk js[k2].name.toArray) = t2 at *
                  go_wp2
                  refine wp_region_after (by kernel_rfl) (by kernel_rfl) ?_
                  repeat (go_big_quiet_step (first | (go_at_call 17; exact qafter (cE1 _ (by exact (After.gr _))))))
                  refine wpQuiet_nil ?_
                  rintro _ ⟨⟨w6, hg6⟩, rfl⟩
                  go_wp2
                  go_ret
                  exact ⟨ret_bool HE.out.symm, hg8.trans hg6⟩
              · obtain rfl : k2 = m := by have := HG2.out; omega
                have HE : Hid (q = true) := Lib.hid (HQ.out.2 ⟨HA.out, by
                  have h := HT2.out
                  rwa [List.take_of_length_le (by rw [HL.out.2.2.1]; exact Nat.le_refl _), List.take_of_length_le (by rw [HL.out.2.2.2]; exact Nat.le_refl _)] at h⟩)
                go_wp2
                go_ret
                exact ⟨ret_bool HE.out.symm, hg8⟩
      · have HE : Hid (q = false) := Lib.hid (by
          cases hc : q
          · rfl
          · exact absurd (by rw [← hl3, ← hl4, (hqq.1 hc).2.2]) hmm)
        have hne : ((m : Int) == (m2 : Int)) = false := by rw [beq_eq_false_iff_ne]; omega
        subst hnn
        clear hl1 hl2 hl3 hl4 hqq hq h1 hF ih hmm hP hQ hK hL hFl hFk
        generalize (ByteArray.mk t.name.toArray) = s1 at *
        generalize (ByteArray.mk u.name.toArray) = s2 at *
        go_enter Tryd.func17, Tryd.ntmps17
        go_wp2
        go_ret
        exact ⟨ret_bool HE.out.symm, hg1⟩
    · have HE : Hid (q = false) := Lib.hid (by
        cases hc : q
        · rfl
        · exact absurd (by rw [← hl1, ← hl2, (hqq.1 hc).2.1]) hnn)
      have hne : ((n : Int) == (n2 : Int)) = false := by rw [beq_eq_false_iff_ne]; omega
      clear hl1 hl2 hl3 hl4 hqq hq h1 hF ih hnn hP hQ hK hL hFl hFk
      generalize (ByteArray.mk t.name.toArray) = s1 at *
      generalize (ByteArray.mk u.name.toArray) = s2 at *
      go_enter Tryd.func17, Tryd.ntmps17
      go_wp2
      go_ret
      exact ⟨ret_bool HE.out.symm, hg1⟩
  · have hs1 : ((ByteArray.mk t.name.toArray).toList == (ByteArray.mk u.name.toArray).toList) = false := str_eq ⟨fun h => (by cases h), fun h => absurd h h1⟩
    have HE : Hid (q = false) := Lib.hid (by
      cases hc : q
      · rfl
      · exact absurd (hqq.1 hc).1 h1)
    clear hl1 hl2 hl3 hl4 hqq hq h1 hF ih hP hQ hK hL hFl hFk
    generalize (ByteArray.mk t.name.toArray) = s1 at *
    generalize (ByteArray.mk u.name.toArray) = s2 at *
    go_enter Tryd.func17, Tryd.ntmps17
    go_wp2
    go_ret
    exact ⟨ret_bool HE.out.symm, hg1⟩
end Go.Proofs.YtbfngdpdgmgfpaaDoor
namespace Go.Proofs.YtbfngdpdgmgfpaaDoor
open Go.RowKit

namespace Ln
def smL (l : Li) : Prop := l.name.length + l.value.length + wtPs l.ps ≤ 5000
def WdL (l : Li) : Prop := Wide l.ps l.ps.length
def Cl (t : Tr) : Prop := AllT smL (fun _ => True) t
/- a line with too many values, all that is looked at ahead of it small -/
inductive PW : Tr → Prop
  | line (t : Tr) (k : Nat) (hk : k < t.lines.length) (hw : WdL t.lines[k]) (hs : ∀ l ∈ t.lines.take k, smL l) : PW t
  | kid (t : Tr) (hl : ∀ l ∈ t.lines, smL l) (k : Nat) (hk : k < t.kids.length) (hw : PW t.kids[k]) (hs : ∀ u ∈ t.kids.take k, Cl u) : PW t
theorem smL.calm {l : Li} (h : smL l) : Calm l.ps := calm_of (by unfold smL at h; omega)
theorem WdL.calm {l : Li} (h : WdL l) : Calm l.ps := Sm.calm (a := 0) (.inr h)
theorem WdL.no {l : Li} (h : WdL l) : lnB l = false := by
  obtain ⟨k0, h0, _, h6, _⟩ := h
  have h1 := wide_no h0 h6 l.ps.length h0
  rw [List.take_length] at h1
  unfold lnB
  rw [formed_ps h1]; rfl
theorem allB_cut {ls : List Li} {k j : Nat} (hk : k < ls.length) (hkj : k < j) (h : lnB ls[k] = false) : (ls.take j).all lnB = false := by
  rw [List.all_eq_false]
  exact ⟨ls[k], by rw [List.mem_take_iff_getElem]; exact ⟨k, by omega, rfl⟩, by rw [h]; simp⟩
theorem pfs_cut {ks : List Tr} {k j : Nat} (hk : k < ks.length) (hkj : k < j) (h : pf ks[k] = false) : pfs (ks.take j) = false := by
  cases h2 : pfs (ks.take j) with
  | false => rfl
  | true =>
    have := pfs_mem (t := ks[k]) (by rw [List.mem_take_iff_getElem]; exact ⟨k, by omega, rfl⟩) h2
    rw [h] at this; cases this
theorem PW.no {t : Tr} (h : PW t) : pf t = false := by
  induction h with
  | line t k hk hw hs =>
    have := allB_cut hk hk hw.no
    rw [List.take_length] at this
    exact pf_lines this
  | kid t hl k hk hw hs ih =>
    have := pfs_cut hk hk ih
    rw [List.take_length] at this
    exact pf_kids this
theorem Cl.pc {t : Tr} (h : Cl t) : PC t := PC.of_all (AllT.imp (fun _ h => h.calm) (fun _ h => h) h)
theorem PW.pc {t : Tr} (h : PW t) : PC t := by
  induction h with
  | line t k hk hw hs =>
    refine .mk t (fun _ j hj hb => ?_) (fun _ hb => ?_)
    · rcases Nat.lt_trichotomy j k with h | h | h
      · exact smL.calm (hs _ (by rw [List.mem_take_iff_getElem]; exact ⟨j, by omega, rfl⟩))
      · subst h; exact hw.calm
      · rw [allB_cut hk h hw.no] at hb; cases hb
    · have := allB_cut hk hk hw.no
      rw [List.take_length, hb] at this; cases this
  | kid t hl k hk hw hs ih =>
    refine .mk t (fun _ j hj _ => smL.calm (hl _ (List.getElem_mem hj))) (fun _ _ j hj hb => ?_)
    rcases Nat.lt_trichotomy j k with h | h | h
    · exact Cl.pc (hs _ (by rw [List.mem_take_iff_getElem]; exact ⟨j, by omega, rfl⟩))
    · subst h; exact ih
    · rw [pfs_cut hk h hw.no] at hb; cases hb
theorem Cl.fit {t : Tr} (h : Cl t) : RwT t → FitT t := by
  induction h with
  | mk t hq hl hk ih =>
    intro hr
    exact .mk t hr.q (fun l h => ⟨hr.l l h, .inl (hl l h)⟩) (fun u hu => ih u hu (hr.k u hu))
/- the sizes of lines -/
def lnw (ls : List Li) : Nat := (ls.map fun l => 1 + l.name.length + l.value.length).sum
theorem lnw_take (ls : List Li) (k : Nat) (hk : k < ls.length) : lnw (ls.take (k + 1)) = lnw (ls.take k) + (1 + ls[k].name.length + ls[k].value.length) := by
  rw [List.take_succ_eq_append_getElem hk]; unfold lnw; rw [List.map_append, List.sum_append]; simp
theorem lnw_le (ls : List Li) (h : ∀ l ∈ ls, smL l) : lnw ls ≤ ls.length * 5001 ∧ ls.length ≤ lnw ls := by
  induction ls with
  | nil => simp [lnw]
  | cons l ls ih =>
    have h1 := ih (fun x hx => h x (by simp [hx]))
    have h2 := h l (by simp)
    unfold smL at h2
    unfold lnw at h1 ⊢
    rw [List.map_cons, List.sum_cons, List.length_cons]
    omega
def R1 (t : Tr) (k : Nat) (z : Int) : Prop := (z = ((1 + t.name.length + lnw (t.lines.take k) : Nat) : Int) ∧ ∀ l ∈ t.lines.take k, smL l) ∨ PW t
theorem R1.step {t : Tr} {k : Nat} {z : Int} (h : R1 t k z) (hk : k < t.lines.length) (hn : t.name.length ≤ 140737488355328) (hl : t.lines.length * 56 ≤ 140737488355328) (hm : Sm (t.lines[k].name.length + t.lines[k].value.length) t.lines[k].ps) :
    R1 t (k + 1) (wrap64 (wrap64 (wrap64 (z + 1) + (t.lines[k].name.length : Int)) + (t.lines[k].value.length : Int))) := by
  rcases h with ⟨h1, h2⟩ | h
  · rcases hm with hm | hm
    · left
      have h3 := (lnw_le _ h2).1
      rw [List.length_take] at h3
      have h4 := lnw_take t.lines k hk
      refine ⟨?_, fun l hl => ?_⟩
      · rw [w64c (x := z + 1) (by omega) (by omega), w64c (x := z + 1 + _) (by omega) (by omega), w64c (by omega) (by omega)]; omega
      · rw [List.take_succ_eq_append_getElem hk, List.mem_append, List.mem_singleton] at hl
        rcases hl with hl | rfl
        · exact h2 l hl
        · exact hm
    · exact .inr (.line t k hk hm h2)
  · exact .inr h
def SzP (t : Tr) (D : Nat) (v : Int) : Prop := (0 ≤ v ∧ v ≤ 36028797018963968 + 50000 * (12 - (D : Int)) ∧ (v ≤ 50000 → Cl t ∧ (cnt t : Int) ≤ 3 * v)) ∨ PW t
def R2 (t : Tr) (D k : Nat) (z : Int) : Prop := (0 ≤ z ∧ z ≤ 36028797018963968 + 50000 * (12 - (D : Int)) ∧ (z ≤ 50000 → (∀ l ∈ t.lines, smL l) ∧ (∀ u ∈ t.kids.take k, Cl u) ∧ (cnts (t.kids.take k) : Int) + 3 * (1 + (t.lines.length : Int)) ≤ 3 * z)) ∨ PW t
theorem R1.two {t : Tr} {z : Int} {D : Nat} (h : R1 t t.lines.length z) (hD : D ≤ 11) (hn : t.name.length ≤ 140737488355328) (hl : t.lines.length * 56 ≤ 140737488355328) : R2 t D 0 z := by
  rcases h with ⟨h1, h2⟩ | h
  · rw [List.take_length] at h1 h2
    have h3 := lnw_le _ h2
    exact .inl ⟨by omega, by omega, fun _ => ⟨h2, by simp, by rw [List.take_zero, cnts_nil]; omega⟩⟩
  · exact .inr h
theorem R2.step {t : Tr} {D k : Nat} {z v : Int} (h : R2 t D k z) (hk : k < t.kids.length) (hD : D ≤ 10) (hz : z ≤ 50000) (hv : SzP t.kids[k] (D + 1) v) : R2 t D (k + 1) (wrap64 (z + v)) := by
  rcases h with ⟨h1, h2, h3⟩ | h
  · obtain ⟨g1, g2, g3⟩ := h3 hz
    rcases hv with ⟨e1, e2, e3⟩ | hv
    · left
      have hct := cnts_take t.kids k hk
      rw [w64c (by omega) (by omega)]
      refine ⟨by omega, by omega, fun hzv => ⟨g1, fun u hu => ?_, ?_⟩⟩
      · rw [List.take_succ_eq_append_getElem hk, List.mem_append, List.mem_singleton] at hu
        rcases hu with hu | rfl
        · exact g2 u hu
        · exact (e3 (by omega)).1
      · have := (e3 (by omega)).2
        omega
    · exact .inr (.kid t g1 k hk hv g2)
  · exact .inr h
theorem R2.fin {t : Tr} {D : Nat} {z : Int} (h : R2 t D t.kids.length z) : SzP t D z := by
  rcases h with ⟨h1, h2, h3⟩ | h
  · refine .inl ⟨h1, h2, fun hz => ?_⟩
    obtain ⟨g1, g2, g3⟩ := h3 hz
    rw [List.take_length] at g2 g3
    have := cnt_eq t
    exact ⟨.mk t trivial g1 g2, by omega⟩
  · exact .inr h
theorem SzP.big {t : Tr} {D : Nat} (hD : D ≤ 11) : SzP t D 1048576 := .inl ⟨by omega, by omega, fun h => by omega⟩
end Ln
set_option maxHeartbeats 4000000 in
set_option maxRecDepth 100000 in
theorem tsize_any (d : Nat) : ∀ (t : Ln.Tr) (A A2 : Option Addr) (n c n2 c2 D : Nat) (w : World), Lns w w.heap.size A n t.lines → Kds d w w.heap.size A2 n2 t.kids → Ln.RwT t → D ≤ 11 →
    Calls Tryd.prog 24 #[.agg #[.string ⟨t.name.toArray⟩, .slice A n c, .slice A2 n2 c2], .int .i64 (D : Int)] w fun e w' => ∃ v : Int, e = .returned (.int .i64 v) ∧ Gr w w' ∧ Hid (Ln.SzP t D v) := by
  induction d using Nat.strongRecOn with
  | _ d ih =>
  intro t A A2 n c n2 c2 D w hLs hK hF hD
  have HL1 := Lib.hid hLs.1
  have HL2 := Lib.hid hK.len
  obtain ⟨hz0, hz1, hz2⟩ := hF.q
  have HZ1 := Lib.hid hz1
  rw [hLs.1] at hz1
  rw [hK.len] at hz2
  have hn2 : n2 ≤ 140737488355328 := by omega
  have hn1 : n ≤ 140737488355328 := by omega
  have hg0 : Gr w (w.alloc (.cells #[.string ⟨t.name.toArray⟩, .slice A n c, .slice A2 n2 c2] 25)) := (Gr.refl w).allocO _
  have hx0 := Bx3.new w (.string ⟨t.name.toArray⟩) (.slice A n c) (.slice A2 n2 c2) 25
  have hFl := hF.l
  have hFk := hF.k
  have hsz : (ByteArray.mk t.name.toArray).size ≤ 140737488355328 := by rw [size_mk]; exact hz0
  have HSZ := Lib.hid (size_mk t.name)
  have HZ0 := Lib.hid hz0
  clear hF hz0
  generalize (ByteArray.mk t.name.toArray) = nb at *
  go_enter Tryd.func24, Tryd.ntmps24
  go_wp2
  obtain ⟨W0, hW0⟩ : ∃ W0, (w.alloc (.cells #[.string nb, .slice A n c, .slice A2 n2 c2] 25)) = W0 := ⟨_, rfl⟩
  rw [hW0] at hg0 hx0 ⊢
  go_loopg [5, 15] n (fun g v5 v15 wx => ∃ (k : Nat) (z : Int), v15 = .int .i64 (k : Int) ∧ v5 = .int .i64 z ∧ k + g = n ∧ Gr W0 wx ∧ Hid (Ln.R1 t k z))
  case atStart => exact ⟨0, _, rfl, rfl, by omega, Gr.refl _, Lib.hid (.inl ⟨by rw [List.take_zero, ← HSZ.out]; simp [Ln.lnw], by simp⟩)⟩
  case round =>
    obtain ⟨k, z, rfl, rfl, hkg, hg3, HN⟩ := hrel
    have HG := Lib.hid hkg
    clear hkg
    have hg4 := hg0.trans hg3
    have hx3 := hx0.gr hg3
    by_cases hk : k < n
    · obtain ⟨ad, hk', A', n', c', rfl, hbl, hc0, hc1, hc2, hP, hnc⟩ := (hLs.gr hg4).at_ hk
      have hRw := hFl _ (List.getElem_mem hk')
      have cF := few10_any ⟨t.lines[k].name.toArray⟩ ⟨t.lines[k].value.toArray⟩ A' n' c' t.lines[k].ps wr hP (by rw [size_mk]; exact hRw.name) (by rw [size_mk]; exact hRw.value) (by rw [← hP.1]; have := hRw.num; omega) hRw.p1 hRw.p2' hRw.p3
      rw [size_mk, size_mk] at cF
      have HST := Lib.hid (fun hm => HN.out.step hk' HZ0.out HZ1.out hm)
      have hs1 : (ByteArray.mk t.lines[k].name.toArray).size = t.lines[k].name.length := size_mk _
      have hs2 : (ByteArray.mk t.lines[k].value.toArray).size = t.lines[k].value.length := size_mk _
      have hb1 : (ByteArray.mk t.lines[k].name.toArray).size ≤ 140737488355328 := by rw [size_mk]; exact hRw.name
      have hb2 : (ByteArray.mk t.lines[k].value.toArray).size ≤ 140737488355328 := by rw [size_mk]; exact hRw.value
      rw [← hs1, ← hs2] at HST cF
      have hkn : (k : Int) < (n : Int) := by omega
      obtain ⟨a0, a1, a2, a3, a4, a5⟩ := hx3
      clear hs1 hs2 ih hRw HN
      generalize (ByteArray.mk t.lines[k].name.toArray) = nl at *
      generalize (ByteArray.mk t.lines[k].value.toArray) = vl at *
      go_wp2_with fail
      refine cF.mono ?_
      rintro e w6 ⟨b, rfl, hg6, hb⟩
      have y1 := gr_cell0 hg6 a1
      have y2 := gr_cell0 hg6 hc0
      have y3 := gr_cell0 hg6 hc2
      cases b
      · clear hb HST
        go_wp2
        go_ret
        exact ⟨_, rfl, hg4.trans hg6, Lib.hid (Ln.SzP.big hD)⟩
      · have HS := Lib.hid (HST.out (hb rfl))
        clear hb HST
        go_wp2
        go_quiet (fail)
        go_wp2
        go_roundg (n - (k + 1))
        case measure => have := HG.out; omega
        case rel => exact ⟨k + 1, _, by go_num, rfl, by omega, (hg3.trans hg6).drewN _, HS⟩
    · obtain rfl : k = n := by have := HG.out; omega
      have HR : Hid (Ln.R2 t D 0 z) := Lib.hid (Ln.R1.two (by rw [HL1.out]; exact HN.out) hD HZ0.out HZ1.out)
      clear HN
      obtain ⟨a0, a1, a2, a3, a4, a5⟩ := hx3
      go_wp2_with fail
      obtain ⟨w5, hw5⟩ : ∃ w5, wr = w5 := ⟨_, rfl⟩
      have hgA := hg4
      have hxA := hx0.gr hg3
      rw [hw5] at hgA hxA
      go_loopg [5, 47] n2 (fun g v5 v47 wx => ∃ (k2 : Nat) (z : Int), v47 = .int .i64 (k2 : Int) ∧ v5 = .int .i64 z ∧ k2 + g = n2 ∧ Gr w5 wx ∧ Hid (Ln.R2 t D k2 z))
      case atStart => exact ⟨0, z, rfl, rfl, by omega, by rw [hw5]; exact Gr.refl _, HR⟩
      case round =>
        clear HR a0 a1 a2 a3 a4 a5
        obtain ⟨k2, z2, rfl, rfl, hkg2, hg7, HN⟩ := hrel
        have HG2 := Lib.hid hkg2
        clear hkg2
        have hg8 := hgA.trans hg7
        have hx8 := hxA.gr hg7
        by_cases hk2 : k2 < n2
        · by_cases hd10 : 10 < D
          · have hi : (10 : Int) < (D : Int) := by omega
            clear HN ih
            go_wp2
            go_ret
            exact ⟨_, rfl, hg8, Lib.hid (Ln.SzP.big hD)⟩
          · have hi : ¬ (10 : Int) < (D : Int) := by omega
            by_cases hz5 : 50000 < z2
            · clear HN ih
              go_wp2
              go_ret
              exact ⟨_, rfl, hg8, Lib.hid (Ln.SzP.big hD)⟩
            · obtain ⟨d', hd', ad, hk', A1, n1, c1, A3, n3, c3, rfl, hbl, hc0, hc1, hc2, hLn3, hKn⟩ := (hK.gr hg8).at_ hk2
              have cK := ih d' hd' t.kids[k2] A1 A3 n1 c1 n3 c3 (D + 1) _ hLn3 hKn (hFk _ (List.getElem_mem hk')) (by omega)
              have hkn : (k2 : Int) < (n2 : Int) := by omega
              obtain ⟨b0, b1, b2, b3, b4, b5⟩ := hx8
              have hD1 : (((D + 1 : Nat) : Int)) = (D : Int) + 1 := by omega
              rw [hD1] at cK
              have HST := Lib.hid (fun v hv => HN.out.step (v := v) hk' (by omega) (by omega) hv)
              clear HN ih
              generalize (ByteArray.mk t.kids[k2].name.toArray) = nk at *
              go_wp2_with (go_at_call 24; refine cK.mono ?_; rintro e w6 ⟨v, rfl, hg6, HV⟩)
              go_roundg (n2 - (k2 + 1))
              case measure => have := HG2.out; omega
              case rel => exact ⟨k2 + 1, _, by go_num, rfl, by omega, hg7.trans hg6, Lib.hid (HST.out v HV.out)⟩
        · obtain rfl : k2 = n2 := by have := HG2.out; omega
          have HE : Hid (Ln.SzP t D z2) := Lib.hid (Ln.R2.fin (by rw [HL2.out]; exact HN.out))
          clear HN
          go_wp2
          go_ret
          exact ⟨_, rfl, hg8, HE⟩
set_option maxHeartbeats 1000000 in
theorem few11_any (d : Nat) (t : Ln.Tr) (A A2 : Option Addr) (n c n2 c2 : Nat) (w : World) (hLs : Lns w w.heap.size A n t.lines) (hK : Kds d w w.heap.size A2 n2 t.kids) (hF : Ln.RwT t) :
    Calls Tryd.prog 8 #[.agg #[.string ⟨t.name.toArray⟩, .slice A n c, .slice A2 n2 c2]] w fun e w' => ∃ b : Bool, e = .returned (.bool b) ∧ Gr w w' ∧ (b = true → (Ln.FitT t ∧ Ln.cnt t ≤ 150000) ∨ Ln.PW t) := by
  have hg0 : Gr w (w.alloc (.cells #[.string ⟨t.name.toArray⟩, .slice A n c, .slice A2 n2 c2] 25)) := (Gr.refl w).allocO _
  have cS := tsize_any d t A A2 n c n2 c2 0 _ (hLs.gr hg0) (hK.gr hg0) hF (by omega)
  have e0 : ((0 : Nat) : Int) = 0 := rfl
  rw [e0] at cS
  have HF := Lib.hid hF
  clear hF hLs hK e0
  generalize (ByteArray.mk t.name.toArray) = nb at *
  go_enter Tryd.func8, Tryd.ntmps8
  go_wp2_with (go_at_call 24; refine cS.mono ?_; rintro e w1 ⟨v, rfl, hg1, HV⟩)
  go_ret
  refine ⟨_, rfl, hg0.trans hg1, fun hb => ?_⟩
  have hv : v ≤ 50000 := by simpa using hb
  rcases HV.out with ⟨_, _, h⟩ | h
  · exact .inl ⟨(h hv).1.fit HF.out, by have := (h hv).2; omega⟩
  · exact .inr h
end Go.Proofs.YtbfngdpdgmgfpaaDoor
namespace Go.Proofs.YtbfngdpdgmgfpaaDoor
open Go.RowKit

theorem Bx3.set2 {w : World} {b : Nat} {x y z : Value} (h : Bx3 w b x y z) (u : Value) : Bx3 (w.setCell ⟨b, 2, none⟩ u) b x y u :=
  ⟨by rw [World.cell?_setCell_other (h := by simp)]; exact h.c0, by rw [World.cell?_setCell_other (h := by simp)]; exact h.c1, World.cell?_setCell_same _ _ _ h.c2,
    by rw [World.frozen?_setCell]; exact h.f0, by rw [World.frozen?_setCell]; exact h.f1, by rw [World.frozen?_setCell]; exact h.f2⟩
set_option maxHeartbeats 8000000 in
set_option maxRecDepth 100000 in
theorem ttheirs_any (d : Nat) : ∀ (t : Ln.Tr) (A A2 : Option Addr) (n c n2 c2 : Nat) (B : Nat) (w : World), B ≤ w.heap.size → Lns w B A n t.lines → Kds d w B A2 n2 t.kids → Ln.AllT Ln.Rw (fun t => t.lines.length * 56 ≤ 140737488355328 ∧ t.kids.length * 64 ≤ 140737488355328) t →
    Calls Tryd.prog 9 #[.agg #[.string ⟨t.name.toArray⟩, .slice A n c, .slice A2 n2 c2]] w fun e w' => ∃ A3 c3 A4 c4, e = .returned (.agg #[.string ⟨t.name.toArray⟩, .slice A3 n c3, .slice A4 n2 c4]) ∧
      Fp (fun x => x < B ∨ w.heap.size ≤ x) w' (fun v => Lns v v.heap.size A3 n t.lines) ∧ Fp (fun x => x < B ∨ w.heap.size ≤ x) w' (fun v => Kds d v v.heap.size A4 n2 t.kids) ∧ Gr w w' := by
  induction d using Nat.strongRecOn with
  | _ d ih =>
  intro t A A2 n c n2 c2 B w hB hLs hK hR
  have HL1 := Lib.hid hLs.1
  have HL2 := Lib.hid hK.len
  obtain ⟨hn, hn2⟩ := hR.q
  rw [hLs.1] at hn
  rw [hK.len] at hn2
  have hRl := hR.l
  have hRk := hR.k
  clear hR
  generalize (ByteArray.mk t.name.toArray) = N at *
  generalize t.lines = ls at *
  generalize t.kids = ks at *
  have hg0 : Gr w (((w.alloc (.cells #[.string N, .slice A n c, .slice A2 n2 c2] 25)).alloc (.cells #[.string ⟨#[]⟩, .slice none 0 0, .slice none 0 0] 31)).alloc (.cells #[.string N, .slice none 0 0, .slice none 0 0] 31)) := (((Gr.refl w).allocO _).allocO _).allocO _
  have hb1 := ((Bx3.new w (.string N) (.slice A n c) (.slice A2 n2 c2) 25).gr ((Gr.refl _).allocO (.cells #[.string ⟨#[]⟩, .slice none 0 0, .slice none 0 0] 31))).gr ((Gr.refl _).allocO (.cells #[.string N, .slice none 0 0, .slice none 0 0] 31))
  have hb2 := (Bx3.new (w.alloc (.cells #[.string N, .slice A n c, .slice A2 n2 c2] 25)) (.string ⟨#[]⟩) (.slice none 0 0) (.slice none 0 0) 31).gr ((Gr.refl _).allocO (.cells #[.string N, .slice none 0 0, .slice none 0 0] 31))
  have hb3 := Bx3.new ((w.alloc (.cells #[.string N, .slice A n c, .slice A2 n2 c2] 25)).alloc (.cells #[.string ⟨#[]⟩, .slice none 0 0, .slice none 0 0] 31)) (.string N) (.slice none 0 0) (.slice none 0 0) 31
  have z1 : (w.alloc (.cells #[.string N, .slice A n c, .slice A2 n2 c2] 25)).heap.size = w.heap.size + 1 := by simp
  have z2 : ((w.alloc (.cells #[.string N, .slice A n c, .slice A2 n2 c2] 25)).alloc (.cells #[.string ⟨#[]⟩, .slice none 0 0, .slice none 0 0] 31)).heap.size = w.heap.size + 2 := by simp
  have z3 : (((w.alloc (.cells #[.string N, .slice A n c, .slice A2 n2 c2] 25)).alloc (.cells #[.string ⟨#[]⟩, .slice none 0 0, .slice none 0 0] 31)).alloc (.cells #[.string N, .slice none 0 0, .slice none 0 0] 31)).heap.size = w.heap.size + 3 := by simp
  rw [z1] at hb2
  rw [z2] at hb3
  clear z1 z2
  go_enter Tryd.func9, Tryd.ntmps9
  go_wp2
  generalize (((w.alloc (.cells #[.string N, .slice A n c, .slice A2 n2 c2] 25)).alloc (.cells #[.string ⟨#[]⟩, .slice none 0 0, .slice none 0 0] 31)).alloc (.cells #[.string N, .slice none 0 0, .slice none 0 0] 31)) = w0 at *
  go_loopg [12] n (fun g v12 wx => ∃ A3 c3, ∃ k : Nat, v12 = .int .i64 (k : Int) ∧ k + g = n ∧ Mv (w.heap.size + 2) w0 wx ∧ Bx3 wx (w.heap.size + 2) (.string N) (.slice A3 k c3) (.slice none 0 0) ∧ ERow wx (w.heap.size + 3) 48 (fun x => x < B ∨ w.heap.size + 3 ≤ x) Ml A3 k c3 (ls.take k))
  case atStart => exact ⟨_, _, 0, rfl, by omega, Mv.refl _ _, hb3, by simpa using ERow.nil _ _ _ _ _⟩
  case round =>
    obtain ⟨A3, c3, k, rfl, hkg, hmv, hb3x, hrow⟩ := hrel
    have HG := Lib.hid hkg
    clear hkg
    have hszx : w.heap.size + 3 ≤ wr.heap.size := by have := hmv.lt; omega
    have hgb : Below w.heap.size w wr := hg0.below.trans (hmv.low (by omega) (by omega))
    have hb1x := hb1.mv hmv (by omega)
    by_cases hk : k < n
    · obtain ⟨ad, hk', A', n', c', rfl, hbl, d2, d3, d4, hP, hnc⟩ := (hLs.keep (hgb.mono hB)).at_ hk
      have hRw := hRl _ (List.getElem_mem hk')
      have d0 := hb3x.c1
      have d1 := hb1x.c1
      have f3 := hb3x.f1
      have HTK := Lib.hid (List.take_succ_eq_append_getElem hk')
      have hkn : (k : Int) < (n : Int) := by omega
      have hown := hrow.own
      go_wp2_with fail
      have hS : (fun w' : World => w'.cell? ⟨w.heap.size + 2, 1, none⟩ = some (.slice A3 k c3) ∧ w'.cell? ⟨w.heap.size, 1, none⟩ = some (.slice (some ad) n c) ∧ w'.cell? (ad.add (k * 3)) = some (.string ⟨ls[k].name.toArray⟩) ∧ w'.cell? ⟨(ad.add (k * 3)).block, (ad.add (k * 3)).off + 1, none⟩ = some (.slice A' n' c') ∧ w'.cell? ⟨(ad.add (k * 3)).block, (ad.add (k * 3)).off + 2, none⟩ = some (.string ⟨ls[k].value.toArray⟩)) wr.drew := ⟨d0, d1, d2, d3, d4⟩
      refine wp_region_last 11 12 (fun w' : World => w'.cell? ⟨w.heap.size + 2, 1, none⟩ = some (.slice A3 k c3) ∧ w'.cell? ⟨w.heap.size, 1, none⟩ = some (.slice (some ad) n c) ∧ w'.cell? (ad.add (k * 3)) = some (.string ⟨ls[k].name.toArray⟩) ∧ w'.cell? ⟨(ad.add (k * 3)).block, (ad.add (k * 3)).off + 1, none⟩ = some (.slice A' n' c') ∧ w'.cell? ⟨(ad.add (k * 3)).block, (ad.add (k * 3)).off + 2, none⟩ = some (.string ⟨ls[k].value.toArray⟩)) (by kernel_rfl) rfl ?_
      refine Wk.take (i := 0) (v := ?_) (at_lit rfl) (at_lit rfl) (by kernel_rfl) (by kernel_rfl) (by kernel_rfl) (by kernel_rfl) rfl (fun _ _ _ h => h) ?_ hS ?_
      rotate_left 1
      · intro w' hSw
        obtain ⟨s0, s1, s2, s3, s4⟩ := hSw
        go_simp
        first | done | rfl
      simp only [Act.put, List.setIfInBounds_toArray, List.set_cons_zero, List.set_cons_succ]
      refine Wk.take (i := 1) (v := ?_) (at_lit rfl) (at_lit rfl) (by kernel_rfl) (by kernel_rfl) (by kernel_rfl) (by kernel_rfl) rfl (fun _ _ _ h => h) ?_ hS ?_
      rotate_left 1
      · intro w' hSw
        obtain ⟨s0, s1, s2, s3, s4⟩ := hSw
        go_simp
        first | done | rfl
      simp only [Act.put, List.setIfInBounds_toArray, List.set_cons_zero, List.set_cons_succ]
      refine Wk.take (i := 2) (v := ?_) (at_lit rfl) (at_lit rfl) (by kernel_rfl) (by kernel_rfl) (by kernel_rfl) (by kernel_rfl) rfl (fun _ _ _ h => h) ?_ hS ?_
      rotate_left 1
      · intro w' hSw
        obtain ⟨s0, s1, s2, s3, s4⟩ := hSw
        go_simp
        first | done | rfl
      simp only [Act.put, List.setIfInBounds_toArray, List.set_cons_zero, List.set_cons_succ]
      refine Wk.take (i := 3) (v := ?_) (at_lit rfl) (at_lit rfl) (by kernel_rfl) (by kernel_rfl) (by kernel_rfl) (by kernel_rfl) rfl (fun _ _ _ h => h) ?_ hS ?_
      rotate_left 1
      · intro w' hSw
        obtain ⟨s0, s1, s2, s3, s4⟩ := hSw
        go_simp
        first | done | rfl
      simp only [Act.put, List.setIfInBounds_toArray, List.set_cons_zero, List.set_cons_succ]
      refine Wk.take (i := 4) (v := ?_) (at_lit rfl) (at_lit rfl) (by kernel_rfl) (by kernel_rfl) (by kernel_rfl) (by kernel_rfl) rfl (fun _ _ _ h => h) ?_ hS ?_
      rotate_left 1
      · intro w' hSw
        obtain ⟨s0, s1, s2, s3, s4⟩ := hSw
        go_simp
        first | done | rfl
      simp only [Act.put, List.setIfInBounds_toArray, List.set_cons_zero, List.set_cons_succ]
      refine Wk.take (i := 5) (v := ?_) (at_lit rfl) (at_lit rfl) (by kernel_rfl) (by kernel_rfl) (by kernel_rfl) (by kernel_rfl) rfl (fun _ _ _ h => h) ?_ hS ?_
      rotate_left 1
      · intro w' hSw
        obtain ⟨s0, s1, s2, s3, s4⟩ := hSw
        go_simp
        first | done | rfl
      simp only [Act.put, List.setIfInBounds_toArray, List.set_cons_zero, List.set_cons_succ]
      refine Wk.take (i := 6) (v := ?_) (at_lit rfl) (at_lit rfl) (by kernel_rfl) (by kernel_rfl) (by kernel_rfl) (by kernel_rfl) rfl (fun _ _ _ h => h) ?_ hS ?_
      rotate_left 1
      · intro w' hSw
        obtain ⟨s0, s1, s2, s3, s4⟩ := hSw
        go_simp
        first | done | rfl
      simp only [Act.put, List.setIfInBounds_toArray, List.set_cons_zero, List.set_cons_succ]
      refine Wk.one (i := 7) (at_lit rfl) (by kernel_rfl) (fun K hK => ?_)
      have hgD : Gr wr wr.drew := (Gr.refl wr).drew
      go_simp
      refine (theirs_fr ⟨ls[k].name.toArray⟩ ⟨ls[k].value.toArray⟩ A' n' c' ls[k].ps wr.drew ((hP.keep (hgD.below.mono (by omega))).more (by have := hgD.lt; omega)) (by rw [← hP.1]; exact hRw.num) hRw.p2).mono ?_
      rintro e w4 ⟨A4, c4, rfl, hP4, hnc4, hg4'⟩
      have hg4 := hgD.trans hg4'
      have hS : (fun w' : World => w'.cell? ⟨w.heap.size + 2, 1, none⟩ = some (.slice A3 k c3) ∧ w'.cell? ⟨w.heap.size, 1, none⟩ = some (.slice (some ad) n c) ∧ w'.cell? (ad.add (k * 3)) = some (.string ⟨ls[k].name.toArray⟩) ∧ w'.cell? ⟨(ad.add (k * 3)).block, (ad.add (k * 3)).off + 1, none⟩ = some (.slice A' n' c') ∧ w'.cell? ⟨(ad.add (k * 3)).block, (ad.add (k * 3)).off + 2, none⟩ = some (.string ⟨ls[k].value.toArray⟩)) w4 := ⟨gr_cell hg4 d0, gr_cell hg4 d1, gr_cell hg4 d2, gr_cell hg4 d3, gr_cell hg4 d4⟩
      refine hK _ _ (fun _ => hS) ?_
      clear hK K
      try simp only [Act.put, List.setIfInBounds_toArray, List.set_cons_zero, List.set_cons_succ]
      have hsz4 : w.heap.size + 3 ≤ w4.heap.size := by have := hg4.lt; omega
      have hszd : wr.drew.heap.size = wr.heap.size := rfl
      have d0' := gr_cell hg4 d0
      have d1' := gr_cell hg4 d1
      have d2' := gr_cell hg4 d2
      have d3' := gr_cell hg4 d3
      have d4' := gr_cell hg4 d4
      have f3' : w4.frozen? ⟨w.heap.size + 2, 1, none⟩ = false := (hg4.frozen (by show w.heap.size + 2 < _; omega)).trans f3
      refine Wk.one (i := 8) (at_lit rfl) (by kernel_rfl) (fun K hK => ?_)
      go_simp
      have hgB : Gr w4 (w4.alloc (.cells #[.string ⟨ls[k].name.toArray⟩, .slice A4 n' c4, .string ⟨ls[k].value.toArray⟩] 48)) := (Gr.refl w4).allocO _
      refine hK _ _ (fun _ => ⟨gr_cell hgB d0', gr_cell hgB d1', gr_cell hgB d2', gr_cell hgB d3', gr_cell hgB d4'⟩) ?_
      clear hK K
      have hM4 : Fp (fun x => (fun x => x < B ∨ w.heap.size + 3 ≤ x) x ∧ (Value.slice A3 k c3).ownBlock ≠ some x) w4 (Ml ls[k] [.string ⟨ls[k].name.toArray⟩, .slice A4 n' c4, .string ⟨ls[k].value.toArray⟩]) :=
        fun w' ha => ⟨_, _, _, rfl, hP4 w' (ha.weak (fun x _ hx => ⟨by omega, fun e => by have := hown _ e; omega⟩)), hnc4⟩
      refine Wk.one (i := 9) (at_lit rfl) (by kernel_rfl) (fun K hK => ?_)
      refine st_row w4 (by rfl) (.tmp 16) (.tmp 23) 28 48 _ 56 Tryd.underlying28 info_line rfl (by rfl) (w.heap.size + 3) (fun x => x < B ∨ w.heap.size + 3 ≤ x) A3 k c3 (ls.take k) (by rfl) (hrow.gr hg4) ls[k] (.string ⟨ls[k].name.toArray⟩) (.slice A4 n' c4) (.string ⟨ls[k].value.toArray⟩) rfl rfl rfl hM4 (by rfl) (by omega) (by omega) hsz4 ?_
      intro g c9 w3 hrow3 hgo hgw
      have hb3w : Below (w.heap.size + 3) w4 w3 := (Below.refl _ _).grown hgw hsz4 (fun q hq => (hrow.own q hq).1)
      have e31 := (hb3w.cell (p := ⟨w.heap.size + 2, 1, none⟩) (by show w.heap.size + 2 < _; omega)).trans d0'
      have g31 := (hb3w.frozen (p := ⟨w.heap.size + 2, 1, none⟩) (by show w.heap.size + 2 < _; omega)).trans f3'
      have hS : (fun w' : World => w'.cell? ⟨w.heap.size + 2, 1, none⟩ = some (.slice A3 k c3) ∧ w'.cell? ⟨w.heap.size, 1, none⟩ = some (.slice (some ad) n c) ∧ w'.cell? (ad.add (k * 3)) = some (.string ⟨ls[k].name.toArray⟩) ∧ w'.cell? ⟨(ad.add (k * 3)).block, (ad.add (k * 3)).off + 1, none⟩ = some (.slice A' n' c') ∧ w'.cell? ⟨(ad.add (k * 3)).block, (ad.add (k * 3)).off + 2, none⟩ = some (.string ⟨ls[k].value.toArray⟩)) w3 :=
        ⟨e31, (hb3w.cell (by show w.heap.size < _; omega)).trans d1', (hb3w.cell (by rw [add_block]; omega)).trans d2', (hb3w.cell (by show (ad.add (k * 3)).block < _; rw [add_block]; omega)).trans d3', (hb3w.cell (by show (ad.add (k * 3)).block < _; rw [add_block]; omega)).trans d4'⟩
      refine hK _ _ (fun _ => hS) ?_
      clear hK K
      simp only [Act.put, List.setIfInBounds_toArray, List.set_cons_zero, List.set_cons_succ]
      refine Wk.take (i := 10) (v := ?_) (at_lit rfl) (at_lit rfl) (by kernel_rfl) (by kernel_rfl) (by kernel_rfl) (by kernel_rfl) rfl (fun _ _ _ h => h) ?_ hS ?_
      rotate_left 1
      · intro w' hSw
        obtain ⟨s0, s1, s2, s3, s4⟩ := hSw
        go_simp
        first | done | rfl
      simp only [Act.put, List.setIfInBounds_toArray, List.set_cons_zero, List.set_cons_succ]
      refine Wk.one (i := 11) (at_lit rfl) (by kernel_rfl) (fun K hK => ?_)
      go_simp
      refine hK _ _ (fun h => absurd rfl h) ?_
      clear hK K
      refine Wk.done (by kernel_rfl) ?_
      have hbw4 : Below (w.heap.size + 3) wr w3 := (hg4.low hszx).trans hb3w
      have hmv3 : Mv (w.heap.size + 2) w0 (w3.setCell ⟨w.heap.size + 2, 1, none⟩ (.slice (some ⟨g, 0, none⟩) (k + 1) c9)) := (hmv.below (by rw [z3]; exact hbw4)).trans (Mv.set _ _ _ _)
      have hrow5 := hrow3.mv (Mv.set (w.heap.size + 2) w3 1 (.slice (some ⟨g, 0, none⟩) (k + 1) c9)) (by omega) (by omega)
      have hb3n : Bx3 (w3.setCell ⟨w.heap.size + 2, 1, none⟩ (.slice (some ⟨g, 0, none⟩) (k + 1) c9)) (w.heap.size + 2) (.string N) (.slice (some ⟨g, 0, none⟩) (k + 1) c9) (.slice none 0 0) := (hb3x.below hbw4 (by omega)).set1 _
      go_wp2
      go_roundg (n - (k + 1))
      case measure => have := HG.out; omega
      case rel => exact ⟨_, c9, k + 1, by go_num, by omega, hmv3, hb3n, by rw [HTK.out]; exact hrow5⟩
    · obtain rfl : k = n := by have := HG.out; omega
      rw [List.take_of_length_le (by rw [HL1.out]; exact Nat.le_refl _)] at hrow
      have hfL : Fp (fun x => x < B ∨ w.heap.size + 3 ≤ x) wr (fun v => Lns v v.heap.size A3 k ls) := lns_of_row hrow (fun x hx => hx) (fun q hq => .inr (hrow.own q hq).1)
      have d0 := hb3x.c1
      have d1 := hb1x.c2
      clear hrow HG hk hgb hszx
      go_wp2_with fail
      go_loopg [30] n2 (fun g v30 wx => ∃ A4 c4, ∃ k2 : Nat, v30 = .int .i64 (k2 : Int) ∧ k2 + g = n2 ∧ Mv (w.heap.size + 2) w0 wx ∧ Bx3 wx (w.heap.size + 2) (.string N) (.slice A3 k c3) (.slice A4 k2 c4) ∧ Fp (fun x => (fun x => x < B ∨ w.heap.size + 3 ≤ x) x ∧ (Value.slice A4 k2 c4).ownBlock ≠ some x) wx (fun v => Lns v v.heap.size A3 k ls) ∧ ERow wx (w.heap.size + 3) 31 (fun x => x < B ∨ w.heap.size + 3 ≤ x) (Mt (d - 1)) A4 k2 c4 (ks.take k2))
      case atStart => exact ⟨_, _, 0, rfl, by omega, hmv, hb3x, hfL.weak (fun x _ hx => ⟨hx, by simp [Value.ownBlock]⟩), by simpa using ERow.nil _ _ _ _ _⟩
      case round =>
        clear hmv hb3x hfL hb1x d0 d1
        obtain ⟨A4, c4, k2, rfl, hkg, hmv, hb3x, hfL, hrow⟩ := hrel
        have HG := Lib.hid hkg
        clear hkg
        have hszx : w.heap.size + 3 ≤ wr.heap.size := by have := hmv.lt; omega
        have hgb : Below w.heap.size w wr := hg0.below.trans (hmv.low (by omega) (by omega))
        have hb1x := hb1.mv hmv (by omega)
        by_cases hk : k2 < n2
        · obtain ⟨d', hd', ad, hk', A', n', c', A'', n'', c'', rfl, hbl, d2, d3, d4, hLn3, hKn⟩ := (Kds.keep (hgb.mono hB) hK).at_ hk
          have cK := fun w1 (h1 : B ≤ w1.heap.size) (h2 : Lns w1 B A' n' ks[k2].lines) (h3 : Kds d' w1 B A'' n'' ks[k2].kids) => ih d' hd' ks[k2] A' A'' n' c' n'' c'' B w1 h1 h2 h3 (hRk _ (List.getElem_mem hk'))
          have d0 := hb3x.c2
          have d1 := hb1x.c2
          have f3 := hb3x.f2
          have HTK := Lib.hid (List.take_succ_eq_append_getElem hk')
          have hkn : (k2 : Int) < (n2 : Int) := by omega
          have hown := hrow.own
          clear ih
          go_wp2_with fail
          have hS : (fun w' : World => w'.cell? ⟨w.heap.size + 2, 2, none⟩ = some (.slice A4 k2 c4) ∧ w'.cell? ⟨w.heap.size, 2, none⟩ = some (.slice (some ad) n2 c2) ∧ w'.cell? (ad.add (k2 * 3)) = some (.string ⟨ks[k2].name.toArray⟩) ∧ w'.cell? ⟨(ad.add (k2 * 3)).block, (ad.add (k2 * 3)).off + 1, none⟩ = some (.slice A' n' c') ∧ w'.cell? ⟨(ad.add (k2 * 3)).block, (ad.add (k2 * 3)).off + 2, none⟩ = some (.slice A'' n'' c'')) wr.drew := ⟨d0, d1, d2, d3, d4⟩
          refine wp_region_last 11 12 (fun w' : World => w'.cell? ⟨w.heap.size + 2, 2, none⟩ = some (.slice A4 k2 c4) ∧ w'.cell? ⟨w.heap.size, 2, none⟩ = some (.slice (some ad) n2 c2) ∧ w'.cell? (ad.add (k2 * 3)) = some (.string ⟨ks[k2].name.toArray⟩) ∧ w'.cell? ⟨(ad.add (k2 * 3)).block, (ad.add (k2 * 3)).off + 1, none⟩ = some (.slice A' n' c') ∧ w'.cell? ⟨(ad.add (k2 * 3)).block, (ad.add (k2 * 3)).off + 2, none⟩ = some (.slice A'' n'' c'')) (by kernel_rfl) rfl ?_
          refine Wk.take (i := 0) (v := ?_) (at_lit rfl) (at_lit rfl) (by kernel_rfl) (by kernel_rfl) (by kernel_rfl) (by kernel_rfl) rfl (fun _ _ _ h => h) ?_ hS ?_
          rotate_left 1
          · intro w' hSw
            obtain ⟨s0, s1, s2, s3, s4⟩ := hSw
            go_simp
            first | done | rfl
          simp only [Act.put, List.setIfInBounds_toArray, List.set_cons_zero, List.set_cons_succ]
          refine Wk.take (i := 1) (v := ?_) (at_lit rfl) (at_lit rfl) (by kernel_rfl) (by kernel_rfl) (by kernel_rfl) (by kernel_rfl) rfl (fun _ _ _ h => h) ?_ hS ?_
          rotate_left 1
          · intro w' hSw
            obtain ⟨s0, s1, s2, s3, s4⟩ := hSw
            go_simp
            first | done | rfl
          simp only [Act.put, List.setIfInBounds_toArray, List.set_cons_zero, List.set_cons_succ]
          refine Wk.take (i := 2) (v := ?_) (at_lit rfl) (at_lit rfl) (by kernel_rfl) (by kernel_rfl) (by kernel_rfl) (by kernel_rfl) rfl (fun _ _ _ h => h) ?_ hS ?_
          rotate_left 1
          · intro w' hSw
            obtain ⟨s0, s1, s2, s3, s4⟩ := hSw
            go_simp
            first | done | rfl
          simp only [Act.put, List.setIfInBounds_toArray, List.set_cons_zero, List.set_cons_succ]
          refine Wk.take (i := 3) (v := ?_) (at_lit rfl) (at_lit rfl) (by kernel_rfl) (by kernel_rfl) (by kernel_rfl) (by kernel_rfl) rfl (fun _ _ _ h => h) ?_ hS ?_
          rotate_left 1
          · intro w' hSw
            obtain ⟨s0, s1, s2, s3, s4⟩ := hSw
            go_simp
            first | done | rfl
          simp only [Act.put, List.setIfInBounds_toArray, List.set_cons_zero, List.set_cons_succ]
          refine Wk.take (i := 4) (v := ?_) (at_lit rfl) (at_lit rfl) (by kernel_rfl) (by kernel_rfl) (by kernel_rfl) (by kernel_rfl) rfl (fun _ _ _ h => h) ?_ hS ?_
          rotate_left 1
          · intro w' hSw
            obtain ⟨s0, s1, s2, s3, s4⟩ := hSw
            go_simp
            first | done | rfl
          simp only [Act.put, List.setIfInBounds_toArray, List.set_cons_zero, List.set_cons_succ]
          refine Wk.take (i := 5) (v := ?_) (at_lit rfl) (at_lit rfl) (by kernel_rfl) (by kernel_rfl) (by kernel_rfl) (by kernel_rfl) rfl (fun _ _ _ h => h) ?_ hS ?_
          rotate_left 1
          · intro w' hSw
            obtain ⟨s0, s1, s2, s3, s4⟩ := hSw
            go_simp
            first | done | rfl
          simp only [Act.put, List.setIfInBounds_toArray, List.set_cons_zero, List.set_cons_succ]
          refine Wk.take (i := 6) (v := ?_) (at_lit rfl) (at_lit rfl) (by kernel_rfl) (by kernel_rfl) (by kernel_rfl) (by kernel_rfl) rfl (fun _ _ _ h => h) ?_ hS ?_
          rotate_left 1
          · intro w' hSw
            obtain ⟨s0, s1, s2, s3, s4⟩ := hSw
            go_simp
            first | done | rfl
          simp only [Act.put, List.setIfInBounds_toArray, List.set_cons_zero, List.set_cons_succ]
          refine Wk.one (i := 7) (at_lit rfl) (by kernel_rfl) (fun K hK => ?_)
          have hgD : Gr wr wr.drew := (Gr.refl wr).drew
          go_simp
          refine (cK wr.drew (by have := hgD.lt; omega) (hLn3.keep (hgD.below.mono (by omega))) (Kds.keep (hgD.below.mono (by omega)) hKn)).mono ?_
          rintro e w4 ⟨A6, c6, A7, c7, rfl, hP4, hQ4, hg4'⟩
          have hg4 := hgD.trans hg4'
          have hS : (fun w' : World => w'.cell? ⟨w.heap.size + 2, 2, none⟩ = some (.slice A4 k2 c4) ∧ w'.cell? ⟨w.heap.size, 2, none⟩ = some (.slice (some ad) n2 c2) ∧ w'.cell? (ad.add (k2 * 3)) = some (.string ⟨ks[k2].name.toArray⟩) ∧ w'.cell? ⟨(ad.add (k2 * 3)).block, (ad.add (k2 * 3)).off + 1, none⟩ = some (.slice A' n' c') ∧ w'.cell? ⟨(ad.add (k2 * 3)).block, (ad.add (k2 * 3)).off + 2, none⟩ = some (.slice A'' n'' c'')) w4 := ⟨gr_cell hg4 d0, gr_cell hg4 d1, gr_cell hg4 d2, gr_cell hg4 d3, gr_cell hg4 d4⟩
          refine hK _ _ (fun _ => hS) ?_
          clear hK K
          try simp only [Act.put, List.setIfInBounds_toArray, List.set_cons_zero, List.set_cons_succ]
          have hsz4 : w.heap.size + 3 ≤ w4.heap.size := by have := hg4.lt; omega
          have hszd : wr.drew.heap.size = wr.heap.size := rfl
          have d0' := gr_cell hg4 d0
          have d1' := gr_cell hg4 d1
          have d2' := gr_cell hg4 d2
          have d3' := gr_cell hg4 d3
          have d4' := gr_cell hg4 d4
          have f3' : w4.frozen? ⟨w.heap.size + 2, 2, none⟩ = false := (hg4.frozen (by show w.heap.size + 2 < _; omega)).trans f3
          refine Wk.one (i := 8) (at_lit rfl) (by kernel_rfl) (fun K hK => ?_)
          go_simp
          have hgB : Gr w4 (w4.alloc (.cells #[.string ⟨ks[k2].name.toArray⟩, .slice A6 n' c6, .slice A7 n'' c7] 31)) := (Gr.refl w4).allocO _
          refine hK _ _ (fun _ => ⟨gr_cell hgB d0', gr_cell hgB d1', gr_cell hgB d2', gr_cell hgB d3', gr_cell hgB d4'⟩) ?_
          clear hK K
          have hM4 : Fp (fun x => (fun x => x < B ∨ w.heap.size + 3 ≤ x) x ∧ (Value.slice A4 k2 c4).ownBlock ≠ some x) w4 (Mt (d - 1) ks[k2] [.string ⟨ks[k2].name.toArray⟩, .slice A6 n' c6, .slice A7 n'' c7]) :=
            fun w' ha => ⟨_, _, _, _, _, _, rfl, hP4 w' (ha.weak (fun x _ hx => ⟨by omega, fun e => by have := hown _ e; omega⟩)), (hQ4 w' (ha.weak (fun x _ hx => ⟨by omega, fun e => by have := hown _ e; omega⟩))).more (Nat.le_refl _) (by omega)⟩
          refine Wk.one (i := 9) (at_lit rfl) (by kernel_rfl) (fun K hK => ?_)
          refine st_row w4 (by rfl) (.tmp 34) (.tmp 41) 29 31 _ 64 Tryd.underlying29 info_tree rfl (by rfl) (w.heap.size + 3) (fun x => x < B ∨ w.heap.size + 3 ≤ x) A4 k2 c4 (ks.take k2) (by rfl) (hrow.gr hg4) ks[k2] (.string ⟨ks[k2].name.toArray⟩) (.slice A6 n' c6) (.slice A7 n'' c7) rfl rfl rfl hM4 (by rfl) (by omega) (by omega) hsz4 ?_
          intro g c9 w3 hrow3 hgo hgw
          have hb3w : Below (w.heap.size + 3) w4 w3 := (Below.refl _ _).grown hgw hsz4 (fun q hq => (hrow.own q hq).1)
          have e31 := (hb3w.cell (p := ⟨w.heap.size + 2, 2, none⟩) (by show w.heap.size + 2 < _; omega)).trans d0'
          have g31 := (hb3w.frozen (p := ⟨w.heap.size + 2, 2, none⟩) (by show w.heap.size + 2 < _; omega)).trans f3'
          have hS : (fun w' : World => w'.cell? ⟨w.heap.size + 2, 2, none⟩ = some (.slice A4 k2 c4) ∧ w'.cell? ⟨w.heap.size, 2, none⟩ = some (.slice (some ad) n2 c2) ∧ w'.cell? (ad.add (k2 * 3)) = some (.string ⟨ks[k2].name.toArray⟩) ∧ w'.cell? ⟨(ad.add (k2 * 3)).block, (ad.add (k2 * 3)).off + 1, none⟩ = some (.slice A' n' c') ∧ w'.cell? ⟨(ad.add (k2 * 3)).block, (ad.add (k2 * 3)).off + 2, none⟩ = some (.slice A'' n'' c'')) w3 :=
            ⟨e31, (hb3w.cell (by show w.heap.size < _; omega)).trans d1', (hb3w.cell (by rw [add_block]; omega)).trans d2', (hb3w.cell (by show (ad.add (k2 * 3)).block < _; rw [add_block]; omega)).trans d3', (hb3w.cell (by show (ad.add (k2 * 3)).block < _; rw [add_block]; omega)).trans d4'⟩
          refine hK _ _ (fun _ => hS) ?_
          clear hK K
          simp only [Act.put, List.setIfInBounds_toArray, List.set_cons_zero, List.set_cons_succ]
          refine Wk.take (i := 10) (v := ?_) (at_lit rfl) (at_lit rfl) (by kernel_rfl) (by kernel_rfl) (by kernel_rfl) (by kernel_rfl) rfl (fun _ _ _ h => h) ?_ hS ?_
          rotate_left 1
          · intro w' hSw
            obtain ⟨s0, s1, s2, s3, s4⟩ := hSw
            go_simp
            first | done | rfl
          simp only [Act.put, List.setIfInBounds_toArray, List.set_cons_zero, List.set_cons_succ]
          refine Wk.one (i := 11) (at_lit rfl) (by kernel_rfl) (fun K hK => ?_)
          go_simp
          refine hK _ _ (fun h => absurd rfl h) ?_
          clear hK K
          refine Wk.done (by kernel_rfl) ?_
          have hbw4 : Below (w.heap.size + 3) wr w3 := (hg4.low hszx).trans hb3w
          have hmv3 : Mv (w.heap.size + 2) w0 (w3.setCell ⟨w.heap.size + 2, 2, none⟩ (.slice (some ⟨g, 0, none⟩) (k2 + 1) c9)) := (hmv.below (by rw [z3]; exact hbw4)).trans (Mv.set _ _ _ _)
          have hrow5 := hrow3.mv (Mv.set (w.heap.size + 2) w3 2 (.slice (some ⟨g, 0, none⟩) (k2 + 1) c9)) (by omega) (by omega)
          have hb3n : Bx3 (w3.setCell ⟨w.heap.size + 2, 2, none⟩ (.slice (some ⟨g, 0, none⟩) (k2 + 1) c9)) (w.heap.size + 2) (.string N) (.slice A3 k c3) (.slice (some ⟨g, 0, none⟩) (k2 + 1) c9) := (hb3x.below hbw4 (by omega)).set2 _
          have hfL3 := (fp_after (hfL.gr hg4) hgw hgo).agree ((Mv.set (w.heap.size + 2) w3 2 (.slice (some ⟨g, 0, none⟩) (k2 + 1) c9)).agree (fun x hx => by omega))
          go_wp2
          go_roundg (n2 - (k2 + 1))
          case measure => have := HG.out; omega
          case rel => exact ⟨_, c9, k2 + 1, by go_num, by omega, hmv3, hb3n, hfL3, by rw [HTK.out]; exact hrow5⟩
        · obtain rfl : k2 = n2 := by have := HG.out; omega
          rw [List.take_of_length_le (by rw [HL2.out]; exact Nat.le_refl _)] at hrow
          have hb2x := hb2.mv hmv (by omega)
          have HX2 := Lib.hid hb2x
          have d0 := hb3x.c0
          have d1 := hb3x.c1
          have d2 := hb3x.c2
          obtain ⟨x0, x1, x2, f0, f1, f2⟩ := hb2x
          go_wp2
          obtain ⟨y0, y1, y2⟩ := HX2.out.set3 (.string N) (.slice A3 k c3) (.slice A4 k2 c4)
          have hmv2 := mv_set3 wr (w.heap.size + 1) (.string N) (.slice A3 k c3) (.slice A4 k2 c4)
          have hrow2 := hrow.mv hmv2 (by omega) (by omega)
          have hfL2 := hfL.agree (hmv2.agree (fun x hx => by omega))
          have hbw := (hg0.below.trans (hmv.low (B := w.heap.size) (by omega) (by omega))).trans (below_set3 (w := wr) (b := w.heap.size + 1) (by omega) (.string N) (.slice A3 k c3) (.slice A4 k2 c4))
          generalize World.setCell (World.setCell (World.setCell _ _ _) _ _) _ _ = W at *
          refine bodyPost_ret (v := .agg #[.string N, .slice A3 k c3, .slice A4 k2 c4]) (by simp [results, Tryd.results9, go_sem, y0, y1, y2]) rfl ⟨A3, c3, A4, ⟨c4, rfl⟩, hfL2.weak (fun x _ hx => by omega), ?_, ⟨hbw⟩⟩
          cases d with
          | zero =>
            have hz : ks.length = k2 ∧ k2 = 0 := hK
            exact fun w' _ => hz
          | succ d => exact kds_of_row hrow2 (fun x hx => by omega) (fun q hq => .inr (by have := (hrow2.own q hq).1; omega))
end Go.Proofs.YtbfngdpdgmgfpaaDoor
namespace Go.Proofs.YtbfngdpdgmgfpaaDoor
open Go.RowKit

set_option maxHeartbeats 8000000 in
set_option maxRecDepth 100000 in
theorem tours_any (d : Nat) : ∀ (t : Ln.Tr) (A A2 : Option Addr) (n c n2 c2 : Nat) (B : Nat) (w : World), B ≤ w.heap.size → Lns w B A n t.lines → Kds d w B A2 n2 t.kids → Ln.AllT (fun l => l.ps.length ≤ 100000) (fun t => t.lines.length * 56 ≤ 140737488355328 ∧ t.kids.length * 64 ≤ 140737488355328) t →
    Calls Tryd.prog 18 #[.agg #[.string ⟨t.name.toArray⟩, .slice A n c, .slice A2 n2 c2]] w fun e w' => ∃ A3 c3 A4 c4, e = .returned (.agg #[.string ⟨t.name.toArray⟩, .slice A3 n c3, .slice A4 n2 c4]) ∧
      Fp (fun x => x < B ∨ w.heap.size ≤ x) w' (fun v => Lns v v.heap.size A3 n t.lines) ∧ Fp (fun x => x < B ∨ w.heap.size ≤ x) w' (fun v => Kds d v v.heap.size A4 n2 t.kids) ∧ Gr w w' := by
  induction d using Nat.strongRecOn with
  | _ d ih =>
  intro t A A2 n c n2 c2 B w hB hLs hK hR
  have HL1 := Lib.hid hLs.1
  have HL2 := Lib.hid hK.len
  obtain ⟨hn, hn2⟩ := hR.q
  rw [hLs.1] at hn
  rw [hK.len] at hn2
  have hRl := hR.l
  have hRk := hR.k
  clear hR
  generalize (ByteArray.mk t.name.toArray) = N at *
  generalize t.lines = ls at *
  generalize t.kids = ks at *
  have hg0 : Gr w (((w.alloc (.cells #[.string N, .slice A n c, .slice A2 n2 c2] 31)).alloc (.cells #[.string ⟨#[]⟩, .slice none 0 0, .slice none 0 0] 25)).alloc (.cells #[.string N, .slice none 0 0, .slice none 0 0] 25)) := (((Gr.refl w).allocO _).allocO _).allocO _
  have hb1 := ((Bx3.new w (.string N) (.slice A n c) (.slice A2 n2 c2) 31).gr ((Gr.refl _).allocO (.cells #[.string ⟨#[]⟩, .slice none 0 0, .slice none 0 0] 25))).gr ((Gr.refl _).allocO (.cells #[.string N, .slice none 0 0, .slice none 0 0] 25))
  have hb2 := (Bx3.new (w.alloc (.cells #[.string N, .slice A n c, .slice A2 n2 c2] 31)) (.string ⟨#[]⟩) (.slice none 0 0) (.slice none 0 0) 25).gr ((Gr.refl _).allocO (.cells #[.string N, .slice none 0 0, .slice none 0 0] 25))
  have hb3 := Bx3.new ((w.alloc (.cells #[.string N, .slice A n c, .slice A2 n2 c2] 31)).alloc (.cells #[.string ⟨#[]⟩, .slice none 0 0, .slice none 0 0] 25)) (.string N) (.slice none 0 0) (.slice none 0 0) 25
  have z1 : (w.alloc (.cells #[.string N, .slice A n c, .slice A2 n2 c2] 31)).heap.size = w.heap.size + 1 := by simp
  have z2 : ((w.alloc (.cells #[.string N, .slice A n c, .slice A2 n2 c2] 31)).alloc (.cells #[.string ⟨#[]⟩, .slice none 0 0, .slice none 0 0] 25)).heap.size = w.heap.size + 2 := by simp
  have z3 : (((w.alloc (.cells #[.string N, .slice A n c, .slice A2 n2 c2] 31)).alloc (.cells #[.string ⟨#[]⟩, .slice none 0 0, .slice none 0 0] 25)).alloc (.cells #[.string N, .slice none 0 0, .slice none 0 0] 25)).heap.size = w.heap.size + 3 := by simp
  rw [z1] at hb2
  rw [z2] at hb3
  clear z1 z2
  go_enter Tryd.func18, Tryd.ntmps18
  go_wp2
  generalize (((w.alloc (.cells #[.string N, .slice A n c, .slice A2 n2 c2] 31)).alloc (.cells #[.string ⟨#[]⟩, .slice none 0 0, .slice none 0 0] 25)).alloc (.cells #[.string N, .slice none 0 0, .slice none 0 0] 25)) = w0 at *
  go_loopg [12] n (fun g v12 wx => ∃ A3 c3, ∃ k : Nat, v12 = .int .i64 (k : Int) ∧ k + g = n ∧ Mv (w.heap.size + 2) w0 wx ∧ Bx3 wx (w.heap.size + 2) (.string N) (.slice A3 k c3) (.slice none 0 0) ∧ ERow wx (w.heap.size + 3) 53 (fun x => x < B ∨ w.heap.size + 3 ≤ x) Ml A3 k c3 (ls.take k))
  case atStart => exact ⟨_, _, 0, rfl, by omega, Mv.refl _ _, hb3, by simpa using ERow.nil _ _ _ _ _⟩
  case round =>
    obtain ⟨A3, c3, k, rfl, hkg, hmv, hb3x, hrow⟩ := hrel
    have HG := Lib.hid hkg
    clear hkg
    have hszx : w.heap.size + 3 ≤ wr.heap.size := by have := hmv.lt; omega
    have hgb : Below w.heap.size w wr := hg0.below.trans (hmv.low (by omega) (by omega))
    have hb1x := hb1.mv hmv (by omega)
    by_cases hk : k < n
    · obtain ⟨ad, hk', A', n', c', rfl, hbl, d2, d3, d4, hP, hnc⟩ := (hLs.keep (hgb.mono hB)).at_ hk
      have hRw := hRl _ (List.getElem_mem hk')
      have d0 := hb3x.c1
      have d1 := hb1x.c1
      have f3 := hb3x.f1
      have HTK := Lib.hid (List.take_succ_eq_append_getElem hk')
      have hkn : (k : Int) < (n : Int) := by omega
      have hown := hrow.own
      go_wp2_with fail
      have hS : (fun w' : World => w'.cell? ⟨w.heap.size + 2, 1, none⟩ = some (.slice A3 k c3) ∧ w'.cell? ⟨w.heap.size, 1, none⟩ = some (.slice (some ad) n c) ∧ w'.cell? (ad.add (k * 3)) = some (.string ⟨ls[k].name.toArray⟩) ∧ w'.cell? ⟨(ad.add (k * 3)).block, (ad.add (k * 3)).off + 1, none⟩ = some (.slice A' n' c') ∧ w'.cell? ⟨(ad.add (k * 3)).block, (ad.add (k * 3)).off + 2, none⟩ = some (.string ⟨ls[k].value.toArray⟩)) wr.drew := ⟨d0, d1, d2, d3, d4⟩
      refine wp_region_last 11 12 (fun w' : World => w'.cell? ⟨w.heap.size + 2, 1, none⟩ = some (.slice A3 k c3) ∧ w'.cell? ⟨w.heap.size, 1, none⟩ = some (.slice (some ad) n c) ∧ w'.cell? (ad.add (k * 3)) = some (.string ⟨ls[k].name.toArray⟩) ∧ w'.cell? ⟨(ad.add (k * 3)).block, (ad.add (k * 3)).off + 1, none⟩ = some (.slice A' n' c') ∧ w'.cell? ⟨(ad.add (k * 3)).block, (ad.add (k * 3)).off + 2, none⟩ = some (.string ⟨ls[k].value.toArray⟩)) (by kernel_rfl) rfl ?_
      refine Wk.take (i := 0) (v := ?_) (at_lit rfl) (at_lit rfl) (by kernel_rfl) (by kernel_rfl) (by kernel_rfl) (by kernel_rfl) rfl (fun _ _ _ h => h) ?_ hS ?_
      rotate_left 1
      · intro w' hSw
        obtain ⟨s0, s1, s2, s3, s4⟩ := hSw
        go_simp
        first | done | rfl
      simp only [Act.put, List.setIfInBounds_toArray, List.set_cons_zero, List.set_cons_succ]
      refine Wk.take (i := 1) (v := ?_) (at_lit rfl) (at_lit rfl) (by kernel_rfl) (by kernel_rfl) (by kernel_rfl) (by kernel_rfl) rfl (fun _ _ _ h => h) ?_ hS ?_
      rotate_left 1
      · intro w' hSw
        obtain ⟨s0, s1, s2, s3, s4⟩ := hSw
        go_simp
        first | done | rfl
      simp only [Act.put, List.setIfInBounds_toArray, List.set_cons_zero, List.set_cons_succ]
      refine Wk.take (i := 2) (v := ?_) (at_lit rfl) (at_lit rfl) (by kernel_rfl) (by kernel_rfl) (by kernel_rfl) (by kernel_rfl) rfl (fun _ _ _ h => h) ?_ hS ?_
      rotate_left 1
      · intro w' hSw
        obtain ⟨s0, s1, s2, s3, s4⟩ := hSw
        go_simp
        first | done | rfl
      simp only [Act.put, List.setIfInBounds_toArray, List.set_cons_zero, List.set_cons_succ]
      refine Wk.take (i := 3) (v := ?_) (at_lit rfl) (at_lit rfl) (by kernel_rfl) (by kernel_rfl) (by kernel_rfl) (by kernel_rfl) rfl (fun _ _ _ h => h) ?_ hS ?_
      rotate_left 1
      · intro w' hSw
        obtain ⟨s0, s1, s2, s3, s4⟩ := hSw
        go_simp
        first | done | rfl
      simp only [Act.put, List.setIfInBounds_toArray, List.set_cons_zero, List.set_cons_succ]
      refine Wk.take (i := 4) (v := ?_) (at_lit rfl) (at_lit rfl) (by kernel_rfl) (by kernel_rfl) (by kernel_rfl) (by kernel_rfl) rfl (fun _ _ _ h => h) ?_ hS ?_
      rotate_left 1
      · intro w' hSw
        obtain ⟨s0, s1, s2, s3, s4⟩ := hSw
        go_simp
        first | done | rfl
      simp only [Act.put, List.setIfInBounds_toArray, List.set_cons_zero, List.set_cons_succ]
      refine Wk.take (i := 5) (v := ?_) (at_lit rfl) (at_lit rfl) (by kernel_rfl) (by kernel_rfl) (by kernel_rfl) (by kernel_rfl) rfl (fun _ _ _ h => h) ?_ hS ?_
      rotate_left 1
      · intro w' hSw
        obtain ⟨s0, s1, s2, s3, s4⟩ := hSw
        go_simp
        first | done | rfl
      simp only [Act.put, List.setIfInBounds_toArray, List.set_cons_zero, List.set_cons_succ]
      refine Wk.take (i := 6) (v := ?_) (at_lit rfl) (at_lit rfl) (by kernel_rfl) (by kernel_rfl) (by kernel_rfl) (by kernel_rfl) rfl (fun _ _ _ h => h) ?_ hS ?_
      rotate_left 1
      · intro w' hSw
        obtain ⟨s0, s1, s2, s3, s4⟩ := hSw
        go_simp
        first | done | rfl
      simp only [Act.put, List.setIfInBounds_toArray, List.set_cons_zero, List.set_cons_succ]
      refine Wk.one (i := 7) (at_lit rfl) (by kernel_rfl) (fun K hK => ?_)
      have hgD : Gr wr wr.drew := (Gr.refl wr).drew
      go_simp
      refine (ours_fr ⟨ls[k].name.toArray⟩ ⟨ls[k].value.toArray⟩ A' n' c' ls[k].ps wr.drew B (by have := hgD.lt; omega) (hP.keep (hgD.below.mono (by omega))) (by rw [← hP.1]; exact hRw)).mono ?_
      rintro e w4 ⟨A4, c4, rfl, hP4, hnc4, hg4'⟩
      have hg4 := hgD.trans hg4'
      have hS : (fun w' : World => w'.cell? ⟨w.heap.size + 2, 1, none⟩ = some (.slice A3 k c3) ∧ w'.cell? ⟨w.heap.size, 1, none⟩ = some (.slice (some ad) n c) ∧ w'.cell? (ad.add (k * 3)) = some (.string ⟨ls[k].name.toArray⟩) ∧ w'.cell? ⟨(ad.add (k * 3)).block, (ad.add (k * 3)).off + 1, none⟩ = some (.slice A' n' c') ∧ w'.cell? ⟨(ad.add (k * 3)).block, (ad.add (k * 3)).off + 2, none⟩ = some (.string ⟨ls[k].value.toArray⟩)) w4 := ⟨gr_cell hg4 d0, gr_cell hg4 d1, gr_cell hg4 d2, gr_cell hg4 d3, gr_cell hg4 d4⟩
      refine hK _ _ (fun _ => hS) ?_
      clear hK K
      try simp only [Act.put, List.setIfInBounds_toArray, List.set_cons_zero, List.set_cons_succ]
      have hsz4 : w.heap.size + 3 ≤ w4.heap.size := by have := hg4.lt; omega
      have hszd : wr.drew.heap.size = wr.heap.size := rfl
      have d0' := gr_cell hg4 d0
      have d1' := gr_cell hg4 d1
      have d2' := gr_cell hg4 d2
      have d3' := gr_cell hg4 d3
      have d4' := gr_cell hg4 d4
      have f3' : w4.frozen? ⟨w.heap.size + 2, 1, none⟩ = false := (hg4.frozen (by show w.heap.size + 2 < _; omega)).trans f3
      refine Wk.one (i := 8) (at_lit rfl) (by kernel_rfl) (fun K hK => ?_)
      go_simp
      have hgB : Gr w4 (w4.alloc (.cells #[.string ⟨ls[k].name.toArray⟩, .slice A4 n' c4, .string ⟨ls[k].value.toArray⟩] 53)) := (Gr.refl w4).allocO _
      refine hK _ _ (fun _ => ⟨gr_cell hgB d0', gr_cell hgB d1', gr_cell hgB d2', gr_cell hgB d3', gr_cell hgB d4'⟩) ?_
      clear hK K
      have hM4 : Fp (fun x => (fun x => x < B ∨ w.heap.size + 3 ≤ x) x ∧ (Value.slice A3 k c3).ownBlock ≠ some x) w4 (Ml ls[k] [.string ⟨ls[k].name.toArray⟩, .slice A4 n' c4, .string ⟨ls[k].value.toArray⟩]) :=
        fun w' ha => ⟨_, _, _, rfl, hP4 w' (ha.weak (fun x _ hx => ⟨by omega, fun e => by have := hown _ e; omega⟩)), hnc4⟩
      refine Wk.one (i := 9) (at_lit rfl) (by kernel_rfl) (fun K hK => ?_)
      refine st_row w4 (by rfl) (.tmp 16) (.tmp 23) 22 53 _ 56 Tryd.underlying22 info_refline rfl (by rfl) (w.heap.size + 3) (fun x => x < B ∨ w.heap.size + 3 ≤ x) A3 k c3 (ls.take k) (by rfl) (hrow.gr hg4) ls[k] (.string ⟨ls[k].name.toArray⟩) (.slice A4 n' c4) (.string ⟨ls[k].value.toArray⟩) rfl rfl rfl hM4 (by rfl) (by omega) (by omega) hsz4 ?_
      intro g c9 w3 hrow3 hgo hgw
      have hb3w : Below (w.heap.size + 3) w4 w3 := (Below.refl _ _).grown hgw hsz4 (fun q hq => (hrow.own q hq).1)
      have e31 := (hb3w.cell (p := ⟨w.heap.size + 2, 1, none⟩) (by show w.heap.size + 2 < _; omega)).trans d0'
      have g31 := (hb3w.frozen (p := ⟨w.heap.size + 2, 1, none⟩) (by show w.heap.size + 2 < _; omega)).trans f3'
      have hS : (fun w' : World => w'.cell? ⟨w.heap.size + 2, 1, none⟩ = some (.slice A3 k c3) ∧ w'.cell? ⟨w.heap.size, 1, none⟩ = some (.slice (some ad) n c) ∧ w'.cell? (ad.add (k * 3)) = some (.string ⟨ls[k].name.toArray⟩) ∧ w'.cell? ⟨(ad.add (k * 3)).block, (ad.add (k * 3)).off + 1, none⟩ = some (.slice A' n' c') ∧ w'.cell? ⟨(ad.add (k * 3)).block, (ad.add (k * 3)).off + 2, none⟩ = some (.string ⟨ls[k].value.toArray⟩)) w3 :=
        ⟨e31, (hb3w.cell (by show w.heap.size < _; omega)).trans d1', (hb3w.cell (by rw [add_block]; omega)).trans d2', (hb3w.cell (by show (ad.add (k * 3)).block < _; rw [add_block]; omega)).trans d3', (hb3w.cell (by show (ad.add (k * 3)).block < _; rw [add_block]; omega)).trans d4'⟩
      refine hK _ _ (fun _ => hS) ?_
      clear hK K
      simp only [Act.put, List.setIfInBounds_toArray, List.set_cons_zero, List.set_cons_succ]
      refine Wk.take (i := 10) (v := ?_) (at_lit rfl) (at_lit rfl) (by kernel_rfl) (by kernel_rfl) (by kernel_rfl) (by kernel_rfl) rfl (fun _ _ _ h => h) ?_ hS ?_
      rotate_left 1
      · intro w' hSw
        obtain ⟨s0, s1, s2, s3, s4⟩ := hSw
        go_simp
        first | done | rfl
      simp only [Act.put, List.setIfInBounds_toArray, List.set_cons_zero, List.set_cons_succ]
      refine Wk.one (i := 11) (at_lit rfl) (by kernel_rfl) (fun K hK => ?_)
      go_simp
      refine hK _ _ (fun h => absurd rfl h) ?_
      clear hK K
      refine Wk.done (by kernel_rfl) ?_
      have hbw4 : Below (w.heap.size + 3) wr w3 := (hg4.low hszx).trans hb3w
      have hmv3 : Mv (w.heap.size + 2) w0 (w3.setCell ⟨w.heap.size + 2, 1, none⟩ (.slice (some ⟨g, 0, none⟩) (k + 1) c9)) := (hmv.below (by rw [z3]; exact hbw4)).trans (Mv.set _ _ _ _)
      have hrow5 := hrow3.mv (Mv.set (w.heap.size + 2) w3 1 (.slice (some ⟨g, 0, none⟩) (k + 1) c9)) (by omega) (by omega)
      have hb3n : Bx3 (w3.setCell ⟨w.heap.size + 2, 1, none⟩ (.slice (some ⟨g, 0, none⟩) (k + 1) c9)) (w.heap.size + 2) (.string N) (.slice (some ⟨g, 0, none⟩) (k + 1) c9) (.slice none 0 0) := (hb3x.below hbw4 (by omega)).set1 _
      go_wp2
      go_roundg (n - (k + 1))
      case measure => have := HG.out; omega
      case rel => exact ⟨_, c9, k + 1, by go_num, by omega, hmv3, hb3n, by rw [HTK.out]; exact hrow5⟩
    · obtain rfl : k = n := by have := HG.out; omega
      rw [List.take_of_length_le (by rw [HL1.out]; exact Nat.le_refl _)] at hrow
      have hfL : Fp (fun x => x < B ∨ w.heap.size + 3 ≤ x) wr (fun v => Lns v v.heap.size A3 k ls) := lns_of_row hrow (fun x hx => hx) (fun q hq => .inr (hrow.own q hq).1)
      have d0 := hb3x.c1
      have d1 := hb1x.c2
      clear hrow HG hk hgb hszx
      go_wp2_with fail
      go_loopg [30] n2 (fun g v30 wx => ∃ A4 c4, ∃ k2 : Nat, v30 = .int .i64 (k2 : Int) ∧ k2 + g = n2 ∧ Mv (w.heap.size + 2) w0 wx ∧ Bx3 wx (w.heap.size + 2) (.string N) (.slice A3 k c3) (.slice A4 k2 c4) ∧ Fp (fun x => (fun x => x < B ∨ w.heap.size + 3 ≤ x) x ∧ (Value.slice A4 k2 c4).ownBlock ≠ some x) wx (fun v => Lns v v.heap.size A3 k ls) ∧ ERow wx (w.heap.size + 3) 25 (fun x => x < B ∨ w.heap.size + 3 ≤ x) (Mt (d - 1)) A4 k2 c4 (ks.take k2))
      case atStart => exact ⟨_, _, 0, rfl, by omega, hmv, hb3x, hfL.weak (fun x _ hx => ⟨hx, by simp [Value.ownBlock]⟩), by simpa using ERow.nil _ _ _ _ _⟩
      case round =>
        clear hmv hb3x hfL hb1x d0 d1
        obtain ⟨A4, c4, k2, rfl, hkg, hmv, hb3x, hfL, hrow⟩ := hrel
        have HG := Lib.hid hkg
        clear hkg
        have hszx : w.heap.size + 3 ≤ wr.heap.size := by have := hmv.lt; omega
        have hgb : Below w.heap.size w wr := hg0.below.trans (hmv.low (by omega) (by omega))
        have hb1x := hb1.mv hmv (by omega)
        by_cases hk : k2 < n2
        · obtain ⟨d', hd', ad, hk', A', n', c', A'', n'', c'', rfl, hbl, d2, d3, d4, hLn3, hKn⟩ := (Kds.keep (hgb.mono hB) hK).at_ hk
          have cK := fun w1 (h1 : B ≤ w1.heap.size) (h2 : Lns w1 B A' n' ks[k2].lines) (h3 : Kds d' w1 B A'' n'' ks[k2].kids) => ih d' hd' ks[k2] A' A'' n' c' n'' c'' B w1 h1 h2 h3 (hRk _ (List.getElem_mem hk'))
          have d0 := hb3x.c2
          have d1 := hb1x.c2
          have f3 := hb3x.f2
          have HTK := Lib.hid (List.take_succ_eq_append_getElem hk')
          have hkn : (k2 : Int) < (n2 : Int) := by omega
          have hown := hrow.own
          clear ih
          go_wp2_with fail
          have hS : (fun w' : World => w'.cell? ⟨w.heap.size + 2, 2, none⟩ = some (.slice A4 k2 c4) ∧ w'.cell? ⟨w.heap.size, 2, none⟩ = some (.slice (some ad) n2 c2) ∧ w'.cell? (ad.add (k2 * 3)) = some (.string ⟨ks[k2].name.toArray⟩) ∧ w'.cell? ⟨(ad.add (k2 * 3)).block, (ad.add (k2 * 3)).off + 1, none⟩ = some (.slice A' n' c') ∧ w'.cell? ⟨(ad.add (k2 * 3)).block, (ad.add (k2 * 3)).off + 2, none⟩ = some (.slice A'' n'' c'')) wr.drew := ⟨d0, d1, d2, d3, d4⟩
          refine wp_region_last 11 12 (fun w' : World => w'.cell? ⟨w.heap.size + 2, 2, none⟩ = some (.slice A4 k2 c4) ∧ w'.cell? ⟨w.heap.size, 2, none⟩ = some (.slice (some ad) n2 c2) ∧ w'.cell? (ad.add (k2 * 3)) = some (.string ⟨ks[k2].name.toArray⟩) ∧ w'.cell? ⟨(ad.add (k2 * 3)).block, (ad.add (k2 * 3)).off + 1, none⟩ = some (.slice A' n' c') ∧ w'.cell? ⟨(ad.add (k2 * 3)).block, (ad.add (k2 * 3)).off + 2, none⟩ = some (.slice A'' n'' c'')) (by kernel_rfl) rfl ?_
          refine Wk.take (i := 0) (v := ?_) (at_lit rfl) (at_lit rfl) (by kernel_rfl) (by kernel_rfl) (by kernel_rfl) (by kernel_rfl) rfl (fun _ _ _ h => h) ?_ hS ?_
          rotate_left 1
          · intro w' hSw
            obtain ⟨s0, s1, s2, s3, s4⟩ := hSw
            go_simp
            first | done | rfl
          simp only [Act.put, List.setIfInBounds_toArray, List.set_cons_zero, List.set_cons_succ]
          refine Wk.take (i := 1) (v := ?_) (at_lit rfl) (at_lit rfl) (by kernel_rfl) (by kernel_rfl) (by kernel_rfl) (by kernel_rfl) rfl (fun _ _ _ h => h) ?_ hS ?_
          rotate_left 1
          · intro w' hSw
            obtain ⟨s0, s1, s2, s3, s4⟩ := hSw
            go_simp
            first | done | rfl
          simp only [Act.put, List.setIfInBounds_toArray, List.set_cons_zero, List.set_cons_succ]
          refine Wk.take (i := 2) (v := ?_) (at_lit rfl) (at_lit rfl) (by kernel_rfl) (by kernel_rfl) (by kernel_rfl) (by kernel_rfl) rfl (fun _ _ _ h => h) ?_ hS ?_
          rotate_left 1
          · intro w' hSw
            obtain ⟨s0, s1, s2, s3, s4⟩ := hSw
            go_simp
            first | done | rfl
          simp only [Act.put, List.setIfInBounds_toArray, List.set_cons_zero, List.set_cons_succ]
          refine Wk.take (i := 3) (v := ?_) (at_lit rfl) (at_lit rfl) (by kernel_rfl) (by kernel_rfl) (by kernel_rfl) (by kernel_rfl) rfl (fun _ _ _ h => h) ?_ hS ?_
          rotate_left 1
          · intro w' hSw
            obtain ⟨s0, s1, s2, s3, s4⟩ := hSw
            go_simp
            first | done | rfl
          simp only [Act.put, List.setIfInBounds_toArray, List.set_cons_zero, List.set_cons_succ]
          refine Wk.take (i := 4) (v := ?_) (at_lit rfl) (at_lit rfl) (by kernel_rfl) (by kernel_rfl) (by kernel_rfl) (by kernel_rfl) rfl (fun _ _ _ h => h) ?_ hS ?_
          rotate_left 1
          · intro w' hSw
            obtain ⟨s0, s1, s2, s3, s4⟩ := hSw
            go_simp
            first | done | rfl
          simp only [Act.put, List.setIfInBounds_toArray, List.set_cons_zero, List.set_cons_succ]
          refine Wk.take (i := 5) (v := ?_) (at_lit rfl) (at_lit rfl) (by kernel_rfl) (by kernel_rfl) (by kernel_rfl) (by kernel_rfl) rfl (fun _ _ _ h => h) ?_ hS ?_
          rotate_left 1
          · intro w' hSw
            obtain ⟨s0, s1, s2, s3, s4⟩ := hSw
            go_simp
            first | done | rfl
          simp only [Act.put, List.setIfInBounds_toArray, List.set_cons_zero, List.set_cons_succ]
          refine Wk.take (i := 6) (v := ?_) (at_lit rfl) (at_lit rfl) (by kernel_rfl) (by kernel_rfl) (by kernel_rfl) (by kernel_rfl) rfl (fun _ _ _ h => h) ?_ hS ?_
          rotate_left 1
          · intro w' hSw
            obtain ⟨s0, s1, s2, s3, s4⟩ := hSw
            go_simp
            first | done | rfl
          simp only [Act.put, List.setIfInBounds_toArray, List.set_cons_zero, List.set_cons_succ]
          refine Wk.one (i := 7) (at_lit rfl) (by kernel_rfl) (fun K hK => ?_)
          have hgD : Gr wr wr.drew := (Gr.refl wr).drew
          go_simp
          refine (cK wr.drew (by have := hgD.lt; omega) (hLn3.keep (hgD.below.mono (by omega))) (Kds.keep (hgD.below.mono (by omega)) hKn)).mono ?_
          rintro e w4 ⟨A6, c6, A7, c7, rfl, hP4, hQ4, hg4'⟩
          have hg4 := hgD.trans hg4'
          have hS : (fun w' : World => w'.cell? ⟨w.heap.size + 2, 2, none⟩ = some (.slice A4 k2 c4) ∧ w'.cell? ⟨w.heap.size, 2, none⟩ = some (.slice (some ad) n2 c2) ∧ w'.cell? (ad.add (k2 * 3)) = some (.string ⟨ks[k2].name.toArray⟩) ∧ w'.cell? ⟨(ad.add (k2 * 3)).block, (ad.add (k2 * 3)).off + 1, none⟩ = some (.slice A' n' c') ∧ w'.cell? ⟨(ad.add (k2 * 3)).block, (ad.add (k2 * 3)).off + 2, none⟩ = some (.slice A'' n'' c'')) w4 := ⟨gr_cell hg4 d0, gr_cell hg4 d1, gr_cell hg4 d2, gr_cell hg4 d3, gr_cell hg4 d4⟩
          refine hK _ _ (fun _ => hS) ?_
          clear hK K
          try simp only [Act.put, List.setIfInBounds_toArray, List.set_cons_zero, List.set_cons_succ]
          have hsz4 : w.heap.size + 3 ≤ w4.heap.size := by have := hg4.lt; omega
          have hszd : wr.drew.heap.size = wr.heap.size := rfl
          have d0' := gr_cell hg4 d0
          have d1' := gr_cell hg4 d1
          have d2' := gr_cell hg4 d2
          have d3' := gr_cell hg4 d3
          have d4' := gr_cell hg4 d4
          have f3' : w4.frozen? ⟨w.heap.size + 2, 2, none⟩ = false := (hg4.frozen (by show w.heap.size + 2 < _; omega)).trans f3
          refine Wk.one (i := 8) (at_lit rfl) (by kernel_rfl) (fun K hK => ?_)
          go_simp
          have hgB : Gr w4 (w4.alloc (.cells #[.string ⟨ks[k2].name.toArray⟩, .slice A6 n' c6, .slice A7 n'' c7] 25)) := (Gr.refl w4).allocO _
          refine hK _ _ (fun _ => ⟨gr_cell hgB d0', gr_cell hgB d1', gr_cell hgB d2', gr_cell hgB d3', gr_cell hgB d4'⟩) ?_
          clear hK K
          have hM4 : Fp (fun x => (fun x => x < B ∨ w.heap.size + 3 ≤ x) x ∧ (Value.slice A4 k2 c4).ownBlock ≠ some x) w4 (Mt (d - 1) ks[k2] [.string ⟨ks[k2].name.toArray⟩, .slice A6 n' c6, .slice A7 n'' c7]) :=
            fun w' ha => ⟨_, _, _, _, _, _, rfl, hP4 w' (ha.weak (fun x _ hx => ⟨by omega, fun e => by have := hown _ e; omega⟩)), (hQ4 w' (ha.weak (fun x _ hx => ⟨by omega, fun e => by have := hown _ e; omega⟩))).more (Nat.le_refl _) (by omega)⟩
          refine Wk.one (i := 9) (at_lit rfl) (by kernel_rfl) (fun K hK => ?_)
          refine st_row w4 (by rfl) (.tmp 34) (.tmp 41) 23 25 _ 64 Tryd.underlying23 info_reftree rfl (by rfl) (w.heap.size + 3) (fun x => x < B ∨ w.heap.size + 3 ≤ x) A4 k2 c4 (ks.take k2) (by rfl) (hrow.gr hg4) ks[k2] (.string ⟨ks[k2].name.toArray⟩) (.slice A6 n' c6) (.slice A7 n'' c7) rfl rfl rfl hM4 (by rfl) (by omega) (by omega) hsz4 ?_
          intro g c9 w3 hrow3 hgo hgw
          have hb3w : Below (w.heap.size + 3) w4 w3 := (Below.refl _ _).grown hgw hsz4 (fun q hq => (hrow.own q hq).1)
          have e31 := (hb3w.cell (p := ⟨w.heap.size + 2, 2, none⟩) (by show w.heap.size + 2 < _; omega)).trans d0'
          have g31 := (hb3w.frozen (p := ⟨w.heap.size + 2, 2, none⟩) (by show w.heap.size + 2 < _; omega)).trans f3'
          have hS : (fun w' : World => w'.cell? ⟨w.heap.size + 2, 2, none⟩ = some (.slice A4 k2 c4) ∧ w'.cell? ⟨w.heap.size, 2, none⟩ = some (.slice (some ad) n2 c2) ∧ w'.cell? (ad.add (k2 * 3)) = some (.string ⟨ks[k2].name.toArray⟩) ∧ w'.cell? ⟨(ad.add (k2 * 3)).block, (ad.add (k2 * 3)).off + 1, none⟩ = some (.slice A' n' c') ∧ w'.cell? ⟨(ad.add (k2 * 3)).block, (ad.add (k2 * 3)).off + 2, none⟩ = some (.slice A'' n'' c'')) w3 :=
            ⟨e31, (hb3w.cell (by show w.heap.size < _; omega)).trans d1', (hb3w.cell (by rw [add_block]; omega)).trans d2', (hb3w.cell (by show (ad.add (k2 * 3)).block < _; rw [add_block]; omega)).trans d3', (hb3w.cell (by show (ad.add (k2 * 3)).block < _; rw [add_block]; omega)).trans d4'⟩
          refine hK _ _ (fun _ => hS) ?_
          clear hK K
          simp only [Act.put, List.setIfInBounds_toArray, List.set_cons_zero, List.set_cons_succ]
          refine Wk.take (i := 10) (v := ?_) (at_lit rfl) (at_lit rfl) (by kernel_rfl) (by kernel_rfl) (by kernel_rfl) (by kernel_rfl) rfl (fun _ _ _ h => h) ?_ hS ?_
          rotate_left 1
          · intro w' hSw
            obtain ⟨s0, s1, s2, s3, s4⟩ := hSw
            go_simp
            first | done | rfl
          simp only [Act.put, List.setIfInBounds_toArray, List.set_cons_zero, List.set_cons_succ]
          refine Wk.one (i := 11) (at_lit rfl) (by kernel_rfl) (fun K hK => ?_)
          go_simp
          refine hK _ _ (fun h => absurd rfl h) ?_
          clear hK K
          refine Wk.done (by kernel_rfl) ?_
          have hbw4 : Below (w.heap.size + 3) wr w3 := (hg4.low hszx).trans hb3w
          have hmv3 : Mv (w.heap.size + 2) w0 (w3.setCell ⟨w.heap.size + 2, 2, none⟩ (.slice (some ⟨g, 0, none⟩) (k2 + 1) c9)) := (hmv.below (by rw [z3]; exact hbw4)).trans (Mv.set _ _ _ _)
          have hrow5 := hrow3.mv (Mv.set (w.heap.size + 2) w3 2 (.slice (some ⟨g, 0, none⟩) (k2 + 1) c9)) (by omega) (by omega)
          have hb3n : Bx3 (w3.setCell ⟨w.heap.size + 2, 2, none⟩ (.slice (some ⟨g, 0, none⟩) (k2 + 1) c9)) (w.heap.size + 2) (.string N) (.slice A3 k c3) (.slice (some ⟨g, 0, none⟩) (k2 + 1) c9) := (hb3x.below hbw4 (by omega)).set2 _
          have hfL3 := (fp_after (hfL.gr hg4) hgw hgo).agree ((Mv.set (w.heap.size + 2) w3 2 (.slice (some ⟨g, 0, none⟩) (k2 + 1) c9)).agree (fun x hx => by omega))
          go_wp2
          go_roundg (n2 - (k2 + 1))
          case measure => have := HG.out; omega
          case rel => exact ⟨_, c9, k2 + 1, by go_num, by omega, hmv3, hb3n, hfL3, by rw [HTK.out]; exact hrow5⟩
        · obtain rfl : k2 = n2 := by have := HG.out; omega
          rw [List.take_of_length_le (by rw [HL2.out]; exact Nat.le_refl _)] at hrow
          have hb2x := hb2.mv hmv (by omega)
          have HX2 := Lib.hid hb2x
          have d0 := hb3x.c0
          have d1 := hb3x.c1
          have d2 := hb3x.c2
          obtain ⟨x0, x1, x2, f0, f1, f2⟩ := hb2x
          go_wp2
          obtain ⟨y0, y1, y2⟩ := HX2.out.set3 (.string N) (.slice A3 k c3) (.slice A4 k2 c4)
          have hmv2 := mv_set3 wr (w.heap.size + 1) (.string N) (.slice A3 k c3) (.slice A4 k2 c4)
          have hrow2 := hrow.mv hmv2 (by omega) (by omega)
          have hfL2 := hfL.agree (hmv2.agree (fun x hx => by omega))
          have hbw := (hg0.below.trans (hmv.low (B := w.heap.size) (by omega) (by omega))).trans (below_set3 (w := wr) (b := w.heap.size + 1) (by omega) (.string N) (.slice A3 k c3) (.slice A4 k2 c4))
          generalize World.setCell (World.setCell (World.setCell _ _ _) _ _) _ _ = W at *
          refine bodyPost_ret (v := .agg #[.string N, .slice A3 k c3, .slice A4 k2 c4]) (by simp [results, Tryd.results18, go_sem, y0, y1, y2]) rfl ⟨A3, c3, A4, ⟨c4, rfl⟩, hfL2.weak (fun x _ hx => by omega), ?_, ⟨hbw⟩⟩
          cases d with
          | zero =>
            have hz : ks.length = k2 ∧ k2 = 0 := hK
            exact fun w' _ => hz
          | succ d => exact kds_of_row hrow2 (fun x hx => by omega) (fun q hq => .inr (by have := (hrow2.own q hq).1; omega))
end Go.Proofs.YtbfngdpdgmgfpaaDoor
