/- FoldOther: the walk. -/
import Derived.Test.YtbdfkpgcjdhcdaaDoorFdLaw
import Derived.Test.YtbdfkpgcjdhcdaaDoorFdUnf
namespace Go.Proofs.YtbdfkpgcjdhcdaaDoor
open Go.RowKit

namespace Fd
open Go.Lib
/- tx: the line l, cut at some places so far -/
def Cut (e : List UInt8) (b : UInt8) (tx l : List UInt8) : Prop := ∃ c0 cs, tx = c0 ++ (cs.map fun c => e ++ b :: c).flatten ∧ c0 ++ cs.flatten = l ∧ (c0 = [] → cs = [])
theorem Cut.nil (e : List UInt8) (b : UInt8) : Cut e b [] [] := ⟨[], [], by simp, by simp, fun _ => rfl⟩
theorem Cut.plain {e : List UInt8} {b : UInt8} {tx l : List UInt8} (h : Cut e b tx l) (x : UInt8) : Cut e b (tx ++ [x]) (l ++ [x]) := by
  obtain ⟨c0, cs, h1, h2, h3⟩ := h
  rcases List.eq_nil_or_concat cs with rfl | ⟨ds, d, rfl⟩
  · exact ⟨c0 ++ [x], [], by rw [h1]; simp, by rw [← h2]; simp, fun _ => rfl⟩
  · exact ⟨c0, ds ++ [d ++ [x]], by rw [h1]; simp, by rw [← h2]; simp, fun h => by have := h3 h; simp at this⟩
theorem Cut.cut {e : List UInt8} {b : UInt8} {tx l : List UInt8} (h : Cut e b tx l) (hl : l ≠ []) (x : UInt8) : Cut e b (tx ++ e ++ [b] ++ [x]) (l ++ [x]) := by
  obtain ⟨c0, cs, h1, h2, h3⟩ := h
  refine ⟨c0, cs ++ [[x]], by rw [h1]; simp, by rw [← h2]; simp, fun h => ?_⟩
  have := h3 h
  subst h this
  simp at h2
  exact absurd h2 hl
theorem Cut.ends {e : List UInt8} {b : UInt8} {tx l : List UInt8} (h : Cut e b tx l) (he : e = [10] ∨ e = [13, 10]) (hb : b = 32 ∨ b = 9) (hl : l ≠ []) (hct : ct l = false) (hcl : ∀ x ∈ l, x ≠ 13 ∧ x ≠ 10) (hv : validD l = true)
    (h2 : l.length ≤ 2000) (ht : (tx ++ e).length ≤ 20000) : unf (tx ++ e) = ([l], 0, 0) := by
  obtain ⟨c0, cs, e1, e2, e3⟩ := h
  have hc0 : c0 ≠ [] := by
    intro h
    have := e3 h
    subst h this
    simp at e2
    exact hl e2
  have hcc : ct c0 = false := by
    rw [← e2] at hct
    cases c0 with
    | nil => exact absurd rfl hc0
    | cons x c0 => simpa [ct] using hct
  have et : tx ++ e = txt e (c0 :: cs.map (b :: ·)) := by
    rw [e1]
    clear e1 e2 e3 ht hc0 hcc
    unfold txt
    rw [List.flatMap_cons]
    suffices hh : ∀ (z : List (List UInt8)), (z.map fun c => e ++ b :: c).flatten ++ e = e ++ (z.map (b :: ·)).flatMap (· ++ e) by
      rw [List.append_assoc, hh, List.append_assoc]
    intro z
    induction z with
    | nil => simp
    | cons y z ih =>
      simp only [List.map_cons, List.flatten_cons, List.flatMap_cons, List.append_assoc]
      rw [ih]
  rw [et] at ht ⊢
  rw [unf_cut e he b hb c0 cs hc0 hcc (by rw [e2]; exact hcl) (by rw [e2]; exact hv) (by rw [e2]; exact h2) ht, e2]
end Fd

theorem ba_append (a b : ByteArray) : (a ++ b).data.toList = a.data.toList ++ b.data.toList := by rw [ByteArray.data_append, Array.toList_append]
/- numbers that came in -/
def U16s (w : World) (B : Nat) (A : Option Addr) (n : Nat) (zs : List Int) : Prop :=
  zs.length = n ∧ (0 < n → ∃ ad : Addr, A = some ad ∧ ad.block < B ∧ ∀ j u, zs[j]? = some u → w.cell? (ad.add j) = some (.int .u16 u) ∧ 0 ≤ u ∧ u < 65536)
theorem U16s.keep {w w' : World} {B : Nat} {A : Option Addr} {n : Nat} {zs : List Int} (h : U16s w B A n zs) (hb : Below B w w') : U16s w' B A n zs :=
  ⟨h.1, fun hn => by
    obtain ⟨ad, e, hbl, hc⟩ := h.2 hn
    exact ⟨ad, e, hbl, fun j u hu => ⟨(hb.cell (by rw [add_block]; exact hbl)).trans (hc j u hu).1, (hc j u hu).2⟩⟩⟩
theorem U16s.at_ {w : World} {B : Nat} {A : Option Addr} {n : Nat} {zs : List Int} (h : U16s w B A n zs) {k : Nat} (hk : k < n) :
    ∃ ad : Addr, ∃ z : Int, A = some ad ∧ ad.block < B ∧ w.cell? (ad.add k) = some (.int .u16 z) ∧ 0 ≤ z ∧ z < 65536 := by
  obtain ⟨ad, e, hb, hc⟩ := h.2 (by omega)
  have hl : k < zs.length := by rw [h.1]; exact hk
  have := hc k _ (List.getElem?_eq_getElem hl)
  exact ⟨ad, _, e, hb, this.1, this.2⟩

set_option maxHeartbeats 8000000 in
set_option maxRecDepth 100000 in
theorem foldother_cs (s : ByteArray) (A : Option Addr) (n c : Nat) (zs : List Int) (w : World) (ht : Tab w) (hU : U16s w w.heap.size A n zs) (hn : n ≤ 140737488355328)
    (h5 : s.size ≤ 500) (h0 : 0 < s.size) (h32 : ((s[0].toNat : Int) == 32) = false) (h9 : ((s[0].toNat : Int) == 9) = false) (hv : Lib.validD s.data.toList = true) :
    Calls Tryd.prog 6 #[.string s, .slice A n c, .bool false, .bool false] w fun e w' => e = .returned (.bool true) ∧ Gr w w' := by
  have hct := ct_head s h0
  rw [h32, h9] at hct
  have cV := fun w => utf_any s w (by omega)
  rw [hv] at cV
  have hne0 : s.size ≠ 0 := by omega
  have h5d : decide ((500 : Int) < (s.size : Int)) = false := by simp; omega
  have h0d : ((s.size : Int) == 0) = false := by rw [beq_eq_false_iff_ne]; omega
  have HC := Lib.hid (And.intro hct hv)
  clear hct hv
  go_enter Tryd.func6, Tryd.ntmps6
  go_wp2_with fail
  refine (awake_any _ ht).mono ?_
  rintro e w1 ⟨rfl, hg1⟩
  have hU1 := hU.keep hg1.below
  have hlt1 := hg1.lt
  go_wp2_with (go_at_call 14; refine (cV _).mono ?_; rintro e w2 ⟨rfl, rfl⟩)
  go_loopg [49] s.size (fun g v wx => ∃ j : Nat, v = .int .i64 (j : Int) ∧ j + g = s.size ∧ w1 = wx ∧ Hid (∀ (i : Nat) (b : UInt8), i < j → s.data.toList[i]? = some b → b ≠ 13 ∧ b ≠ 10))
  case atStart => exact ⟨0, rfl, by omega, rfl, Lib.hid (fun i b h => by omega)⟩
  case round =>
    obtain ⟨j, rfl, hjg, rfl, HO⟩ := hrel
    have HJ := Lib.hid hjg
    clear hjg
    by_cases hj : j < s.size
    · have hat := at_toNat s j hj
      have HA := Lib.hid hat
      clear hat
      cases h3 : ((s[j].toNat : Int) == 13)
      · cases h4 : ((s[j].toNat : Int) == 10)
        · go_wp2
          go_roundg (s.size - (j + 1))
          case measure => have := HJ.out; omega
          case rel =>
            refine ⟨j + 1, by go_num, by omega, rfl, Lib.hid (fun i b hi hb => ?_)⟩
            rcases Nat.lt_or_ge i j with h5 | h5
            · exact HO.out i b h5 hb
            · have : i = j := by omega
              subst this
              rw [HA.out] at hb
              obtain rfl := Option.some.inj hb
              constructor
              · intro e; rw [e] at h3; cases h3
              · intro e; rw [e] at h4; cases h4
        · go_wp2
          go_ret
          exact ⟨rfl, hg1⟩
      · go_wp2
        go_ret
        exact ⟨rfl, hg1⟩
    · have hcl : ∀ x ∈ s.data.toList, x ≠ 13 ∧ x ≠ 10 := by
        intro x hx
        obtain ⟨i, hi, rfl⟩ := List.getElem_of_mem hx
        exact HO.out i _ (by rw [← Lib.size_eq] at hi; omega) (List.getElem?_eq_getElem hi)
      have HCL := Lib.hid hcl
      clear hcl
      go_wp2
      go_loopg [12, 67] s.size (fun g v12 v wx => ∃ tx : ByteArray, ∃ i : Nat, v12 = .string tx ∧ v = .int .i64 (i : Int) ∧ i + g = s.size ∧ w1 = wx ∧ tx.size ≤ 4 * i ∧ Hid (Fd.Cut [13, 10] 32 tx.data.toList (s.data.toList.take i)))
      case atStart => exact ⟨⟨#[]⟩, 0, rfl, rfl, by omega, rfl, by decide, Lib.hid (Fd.Cut.nil _ _)⟩
      case round =>
        obtain ⟨tx, i, rfl, rfl, hig, rfl, htx, HT⟩ := hrel
        have HI := Lib.hid hig
        clear hig
        by_cases hi : i < s.size
        · go_wp2
          go_loopg [14, 72] n (fun g v14 v wx => ∃ q : Bool, ∃ k : Nat, v14 = .bool q ∧ v = .int .i64 (k : Int) ∧ k + g = n ∧ w1 = wx ∧ (i = 0 → q = false))
          case atStart => exact ⟨false, 0, rfl, rfl, by omega, rfl, fun _ => rfl⟩
          case round =>
            obtain ⟨q, k, rfl, rfl, hkg, rfl, hq⟩ := hrel
            have HK := Lib.hid hkg
            have HQ := Lib.hid hq
            clear hkg hq
            by_cases hk : k < n
            · obtain ⟨ad, z, rfl, hbl, hcell, hz0, hz1⟩ := hU1.at_ hk
              cases q
              · by_cases hi0 : i = 0
                · subst hi0
                  go_wp2
                  go_roundg (n - (k + 1))
                  case measure => have := HK.out; omega
                  case rel => exact ⟨_, k + 1, rfl, by go_num, by omega, rfl, fun _ => rfl⟩
                · have hip : 0 < i := by omega
                  go_wp2
                  go_roundg (n - (k + 1))
                  case measure => have := HK.out; omega
                  case rel => exact ⟨_, k + 1, rfl, by go_num, by omega, rfl, fun h => absurd h hi0⟩
              · go_wp2
                go_roundg (n - (k + 1))
                case measure => have := HK.out; omega
                case rel => exact ⟨_, k + 1, rfl, by go_num, by omega, rfl, fun h => HQ.out h⟩
            · have hi' : i < s.data.toList.length := by rw [← Lib.size_eq]; exact hi
              have hts := List.take_succ_eq_append_getElem hi'
              obtain ⟨u, hu⟩ : ∃ u, s.extract i (i + 1) = u := ⟨_, rfl⟩
              have hud : u.data.toList = [s.data.toList[i]] := by
                rw [← hu, extract_mid, hts]
                show List.drop i (List.take i s.data.toList ++ [s.data.toList[i]]) = _
                rw [List.drop_append_of_le_length (by rw [List.length_take]; omega), List.drop_eq_nil_of_le (by rw [List.length_take]; omega)]
                rfl
              have hus : u.size = 1 := by rw [Lib.size_eq, hud]; rfl
              have HX := Lib.hid (And.intro hts hud)
              clear hts hud
              cases q
              · go_wp2
                go_roundg (s.size - (i + 1))
                case measure => have := HI.out; omega
                case rel =>
                  refine ⟨tx ++ u, i + 1, rfl, by go_num, by omega, rfl, by rw [ByteArray.size_append]; omega, Lib.hid ?_⟩
                  rw [ba_append, HX.out.1, HX.out.2]
                  exact HT.out.plain _
              · have hi0 : i ≠ 0 := fun h => by have := HQ.out h; cases this
                go_wp2
                go_roundg (s.size - (i + 1))
                case measure => have := HI.out; omega
                case rel =>
                  refine ⟨tx ++ ⟨#[13, 10]⟩ ++ ⟨#[32]⟩ ++ u, i + 1, rfl, by go_num, by omega, rfl, ?_, Lib.hid ?_⟩
                  · have z1 : (ByteArray.mk #[13, 10]).size = 2 := rfl
                    have z2 : (ByteArray.mk #[32]).size = 1 := rfl
                    rw [ByteArray.size_append, ByteArray.size_append, ByteArray.size_append, z1, z2]; omega
                  · rw [ba_append, ba_append, ba_append, HX.out.1, HX.out.2]
                    exact HT.out.cut (by
                      intro h
                      have := congrArg List.length h
                      rw [List.length_take, List.length_nil] at this
                      omega) _
        · obtain rfl : i = s.size := by have := HI.out; omega
          have z1 : (ByteArray.mk #[13, 10]).size = 2 := rfl
          have hts : s.data.toList.take s.size = s.data.toList := List.take_of_length_le (by rw [← Lib.size_eq]; exact Nat.le_refl _)
          have hcut := HT.out
          rw [hts] at hcut
          have hsn : s.data.toList ≠ [] := by intro h; have := Lib.size_eq s; rw [h, List.length_nil] at this; omega
          have hun := hcut.ends (.inr rfl) (.inl rfl) hsn HC.out.1 HCL.out HC.out.2 (by rw [← Lib.size_eq]; omega) (by
            rw [List.length_append, ← Lib.size_eq]
            show tx.size + 2 ≤ _
            omega)
          have cU := unfold_any (tx ++ ⟨#[13, 10]⟩) w1 (ht.keep hg1) (by rw [ByteArray.size_append, z1]; omega)
          have ed : (tx ++ ByteArray.mk #[13, 10]).data.toList = tx.data.toList ++ [13, 10] := ba_append _ _
          rw [ed, hun] at cU
          simp only at cU
          clear hun ed hcut hsn hts z1
          go_wp2_with fail
          refine cU.mono ?_
          rintro e w4 ⟨A4, n4, c4, rfl, hown4, hg4⟩
          obtain rfl : n4 = 1 := by simpa [sc] using hown4.len.symm
          obtain ⟨gb, rfl, _, _, hcells⟩ := hown4.cells (by omega)
          have hc0 : w4.cell? ⟨gb, 0, none⟩ = some (.string s) := hcells 0 _ rfl
          clear hcells
          go_wp2
          go_ret
          exact ⟨rfl, hg1.trans hg4⟩
set_option maxHeartbeats 8000000 in
set_option maxRecDepth 100000 in
theorem foldother_ls (s : ByteArray) (A : Option Addr) (n c : Nat) (zs : List Int) (w : World) (ht : Tab w) (hU : U16s w w.heap.size A n zs) (hn : n ≤ 140737488355328)
    (h5 : s.size ≤ 500) (h0 : 0 < s.size) (h32 : ((s[0].toNat : Int) == 32) = false) (h9 : ((s[0].toNat : Int) == 9) = false) (hv : Lib.validD s.data.toList = true) :
    Calls Tryd.prog 6 #[.string s, .slice A n c, .bool false, .bool true] w fun e w' => e = .returned (.bool true) ∧ Gr w w' := by
  have hct := ct_head s h0
  rw [h32, h9] at hct
  have cV := fun w => utf_any s w (by omega)
  rw [hv] at cV
  have hne0 : s.size ≠ 0 := by omega
  have h5d : decide ((500 : Int) < (s.size : Int)) = false := by simp; omega
  have h0d : ((s.size : Int) == 0) = false := by rw [beq_eq_false_iff_ne]; omega
  have HC := Lib.hid (And.intro hct hv)
  clear hct hv
  go_enter Tryd.func6, Tryd.ntmps6
  go_wp2_with fail
  refine (awake_any _ ht).mono ?_
  rintro e w1 ⟨rfl, hg1⟩
  have hU1 := hU.keep hg1.below
  have hlt1 := hg1.lt
  go_wp2_with (go_at_call 14; refine (cV _).mono ?_; rintro e w2 ⟨rfl, rfl⟩)
  go_loopg [49] s.size (fun g v wx => ∃ j : Nat, v = .int .i64 (j : Int) ∧ j + g = s.size ∧ w1 = wx ∧ Hid (∀ (i : Nat) (b : UInt8), i < j → s.data.toList[i]? = some b → b ≠ 13 ∧ b ≠ 10))
  case atStart => exact ⟨0, rfl, by omega, rfl, Lib.hid (fun i b h => by omega)⟩
  case round =>
    obtain ⟨j, rfl, hjg, rfl, HO⟩ := hrel
    have HJ := Lib.hid hjg
    clear hjg
    by_cases hj : j < s.size
    · have hat := at_toNat s j hj
      have HA := Lib.hid hat
      clear hat
      cases h3 : ((s[j].toNat : Int) == 13)
      · cases h4 : ((s[j].toNat : Int) == 10)
        · go_wp2
          go_roundg (s.size - (j + 1))
          case measure => have := HJ.out; omega
          case rel =>
            refine ⟨j + 1, by go_num, by omega, rfl, Lib.hid (fun i b hi hb => ?_)⟩
            rcases Nat.lt_or_ge i j with h5 | h5
            · exact HO.out i b h5 hb
            · have : i = j := by omega
              subst this
              rw [HA.out] at hb
              obtain rfl := Option.some.inj hb
              constructor
              · intro e; rw [e] at h3; cases h3
              · intro e; rw [e] at h4; cases h4
        · go_wp2
          go_ret
          exact ⟨rfl, hg1⟩
      · go_wp2
        go_ret
        exact ⟨rfl, hg1⟩
    · have hcl : ∀ x ∈ s.data.toList, x ≠ 13 ∧ x ≠ 10 := by
        intro x hx
        obtain ⟨i, hi, rfl⟩ := List.getElem_of_mem hx
        exact HO.out i _ (by rw [← Lib.size_eq] at hi; omega) (List.getElem?_eq_getElem hi)
      have HCL := Lib.hid hcl
      clear hcl
      go_wp2
      go_loopg [12, 67] s.size (fun g v12 v wx => ∃ tx : ByteArray, ∃ i : Nat, v12 = .string tx ∧ v = .int .i64 (i : Int) ∧ i + g = s.size ∧ w1 = wx ∧ tx.size ≤ 4 * i ∧ Hid (Fd.Cut [10] 32 tx.data.toList (s.data.toList.take i)))
      case atStart => exact ⟨⟨#[]⟩, 0, rfl, rfl, by omega, rfl, by decide, Lib.hid (Fd.Cut.nil _ _)⟩
      case round =>
        obtain ⟨tx, i, rfl, rfl, hig, rfl, htx, HT⟩ := hrel
        have HI := Lib.hid hig
        clear hig
        by_cases hi : i < s.size
        · go_wp2
          go_loopg [14, 72] n (fun g v14 v wx => ∃ q : Bool, ∃ k : Nat, v14 = .bool q ∧ v = .int .i64 (k : Int) ∧ k + g = n ∧ w1 = wx ∧ (i = 0 → q = false))
          case atStart => exact ⟨false, 0, rfl, rfl, by omega, rfl, fun _ => rfl⟩
          case round =>
            obtain ⟨q, k, rfl, rfl, hkg, rfl, hq⟩ := hrel
            have HK := Lib.hid hkg
            have HQ := Lib.hid hq
            clear hkg hq
            by_cases hk : k < n
            · obtain ⟨ad, z, rfl, hbl, hcell, hz0, hz1⟩ := hU1.at_ hk
              cases q
              · by_cases hi0 : i = 0
                · subst hi0
                  go_wp2
                  go_roundg (n - (k + 1))
                  case measure => have := HK.out; omega
                  case rel => exact ⟨_, k + 1, rfl, by go_num, by omega, rfl, fun _ => rfl⟩
                · have hip : 0 < i := by omega
                  go_wp2
                  go_roundg (n - (k + 1))
                  case measure => have := HK.out; omega
                  case rel => exact ⟨_, k + 1, rfl, by go_num, by omega, rfl, fun h => absurd h hi0⟩
              · go_wp2
                go_roundg (n - (k + 1))
                case measure => have := HK.out; omega
                case rel => exact ⟨_, k + 1, rfl, by go_num, by omega, rfl, fun h => HQ.out h⟩
            · have hi' : i < s.data.toList.length := by rw [← Lib.size_eq]; exact hi
              have hts := List.take_succ_eq_append_getElem hi'
              obtain ⟨u, hu⟩ : ∃ u, s.extract i (i + 1) = u := ⟨_, rfl⟩
              have hud : u.data.toList = [s.data.toList[i]] := by
                rw [← hu, extract_mid, hts]
                show List.drop i (List.take i s.data.toList ++ [s.data.toList[i]]) = _
                rw [List.drop_append_of_le_length (by rw [List.length_take]; omega), List.drop_eq_nil_of_le (by rw [List.length_take]; omega)]
                rfl
              have hus : u.size = 1 := by rw [Lib.size_eq, hud]; rfl
              have HX := Lib.hid (And.intro hts hud)
              clear hts hud
              cases q
              · go_wp2
                go_roundg (s.size - (i + 1))
                case measure => have := HI.out; omega
                case rel =>
                  refine ⟨tx ++ u, i + 1, rfl, by go_num, by omega, rfl, by rw [ByteArray.size_append]; omega, Lib.hid ?_⟩
                  rw [ba_append, HX.out.1, HX.out.2]
                  exact HT.out.plain _
              · have hi0 : i ≠ 0 := fun h => by have := HQ.out h; cases this
                go_wp2
                go_roundg (s.size - (i + 1))
                case measure => have := HI.out; omega
                case rel =>
                  refine ⟨tx ++ ⟨#[10]⟩ ++ ⟨#[32]⟩ ++ u, i + 1, rfl, by go_num, by omega, rfl, ?_, Lib.hid ?_⟩
                  · have z1 : (ByteArray.mk #[10]).size = 1 := rfl
                    have z2 : (ByteArray.mk #[32]).size = 1 := rfl
                    rw [ByteArray.size_append, ByteArray.size_append, ByteArray.size_append, z1, z2]; omega
                  · rw [ba_append, ba_append, ba_append, HX.out.1, HX.out.2]
                    exact HT.out.cut (by
                      intro h
                      have := congrArg List.length h
                      rw [List.length_take, List.length_nil] at this
                      omega) _
        · obtain rfl : i = s.size := by have := HI.out; omega
          have z1 : (ByteArray.mk #[10]).size = 1 := rfl
          have hts : s.data.toList.take s.size = s.data.toList := List.take_of_length_le (by rw [← Lib.size_eq]; exact Nat.le_refl _)
          have hcut := HT.out
          rw [hts] at hcut
          have hsn : s.data.toList ≠ [] := by intro h; have := Lib.size_eq s; rw [h, List.length_nil] at this; omega
          have hun := hcut.ends (.inl rfl) (.inl rfl) hsn HC.out.1 HCL.out HC.out.2 (by rw [← Lib.size_eq]; omega) (by
            rw [List.length_append, ← Lib.size_eq]
            show tx.size + 1 ≤ _
            omega)
          have cU := unfold_any (tx ++ ⟨#[10]⟩) w1 (ht.keep hg1) (by rw [ByteArray.size_append, z1]; omega)
          have ed : (tx ++ ByteArray.mk #[10]).data.toList = tx.data.toList ++ [10] := ba_append _ _
          rw [ed, hun] at cU
          simp only at cU
          clear hun ed hcut hsn hts z1
          go_wp2_with fail
          refine cU.mono ?_
          rintro e w4 ⟨A4, n4, c4, rfl, hown4, hg4⟩
          obtain rfl : n4 = 1 := by simpa [sc] using hown4.len.symm
          obtain ⟨gb, rfl, _, _, hcells⟩ := hown4.cells (by omega)
          have hc0 : w4.cell? ⟨gb, 0, none⟩ = some (.string s) := hcells 0 _ rfl
          clear hcells
          go_wp2
          go_ret
          exact ⟨rfl, hg1.trans hg4⟩
set_option maxHeartbeats 8000000 in
set_option maxRecDepth 100000 in
theorem foldother_ct (s : ByteArray) (A : Option Addr) (n c : Nat) (zs : List Int) (w : World) (ht : Tab w) (hU : U16s w w.heap.size A n zs) (hn : n ≤ 140737488355328)
    (h5 : s.size ≤ 500) (h0 : 0 < s.size) (h32 : ((s[0].toNat : Int) == 32) = false) (h9 : ((s[0].toNat : Int) == 9) = false) (hv : Lib.validD s.data.toList = true) :
    Calls Tryd.prog 6 #[.string s, .slice A n c, .bool true, .bool false] w fun e w' => e = .returned (.bool true) ∧ Gr w w' := by
  have hct := ct_head s h0
  rw [h32, h9] at hct
  have cV := fun w => utf_any s w (by omega)
  rw [hv] at cV
  have hne0 : s.size ≠ 0 := by omega
  have h5d : decide ((500 : Int) < (s.size : Int)) = false := by simp; omega
  have h0d : ((s.size : Int) == 0) = false := by rw [beq_eq_false_iff_ne]; omega
  have HC := Lib.hid (And.intro hct hv)
  clear hct hv
  go_enter Tryd.func6, Tryd.ntmps6
  go_wp2_with fail
  refine (awake_any _ ht).mono ?_
  rintro e w1 ⟨rfl, hg1⟩
  have hU1 := hU.keep hg1.below
  have hlt1 := hg1.lt
  go_wp2_with (go_at_call 14; refine (cV _).mono ?_; rintro e w2 ⟨rfl, rfl⟩)
  go_loopg [49] s.size (fun g v wx => ∃ j : Nat, v = .int .i64 (j : Int) ∧ j + g = s.size ∧ w1 = wx ∧ Hid (∀ (i : Nat) (b : UInt8), i < j → s.data.toList[i]? = some b → b ≠ 13 ∧ b ≠ 10))
  case atStart => exact ⟨0, rfl, by omega, rfl, Lib.hid (fun i b h => by omega)⟩
  case round =>
    obtain ⟨j, rfl, hjg, rfl, HO⟩ := hrel
    have HJ := Lib.hid hjg
    clear hjg
    by_cases hj : j < s.size
    · have hat := at_toNat s j hj
      have HA := Lib.hid hat
      clear hat
      cases h3 : ((s[j].toNat : Int) == 13)
      · cases h4 : ((s[j].toNat : Int) == 10)
        · go_wp2
          go_roundg (s.size - (j + 1))
          case measure => have := HJ.out; omega
          case rel =>
            refine ⟨j + 1, by go_num, by omega, rfl, Lib.hid (fun i b hi hb => ?_)⟩
            rcases Nat.lt_or_ge i j with h5 | h5
            · exact HO.out i b h5 hb
            · have : i = j := by omega
              subst this
              rw [HA.out] at hb
              obtain rfl := Option.some.inj hb
              constructor
              · intro e; rw [e] at h3; cases h3
              · intro e; rw [e] at h4; cases h4
        · go_wp2
          go_ret
          exact ⟨rfl, hg1⟩
      · go_wp2
        go_ret
        exact ⟨rfl, hg1⟩
    · have hcl : ∀ x ∈ s.data.toList, x ≠ 13 ∧ x ≠ 10 := by
        intro x hx
        obtain ⟨i, hi, rfl⟩ := List.getElem_of_mem hx
        exact HO.out i _ (by rw [← Lib.size_eq] at hi; omega) (List.getElem?_eq_getElem hi)
      have HCL := Lib.hid hcl
      clear hcl
      go_wp2
      go_loopg [12, 67] s.size (fun g v12 v wx => ∃ tx : ByteArray, ∃ i : Nat, v12 = .string tx ∧ v = .int .i64 (i : Int) ∧ i + g = s.size ∧ w1 = wx ∧ tx.size ≤ 4 * i ∧ Hid (Fd.Cut [13, 10] 9 tx.data.toList (s.data.toList.take i)))
      case atStart => exact ⟨⟨#[]⟩, 0, rfl, rfl, by omega, rfl, by decide, Lib.hid (Fd.Cut.nil _ _)⟩
      case round =>
        obtain ⟨tx, i, rfl, rfl, hig, rfl, htx, HT⟩ := hrel
        have HI := Lib.hid hig
        clear hig
        by_cases hi : i < s.size
        · go_wp2
          go_loopg [14, 72] n (fun g v14 v wx => ∃ q : Bool, ∃ k : Nat, v14 = .bool q ∧ v = .int .i64 (k : Int) ∧ k + g = n ∧ w1 = wx ∧ (i = 0 → q = false))
          case atStart => exact ⟨false, 0, rfl, rfl, by omega, rfl, fun _ => rfl⟩
          case round =>
            obtain ⟨q, k, rfl, rfl, hkg, rfl, hq⟩ := hrel
            have HK := Lib.hid hkg
            have HQ := Lib.hid hq
            clear hkg hq
            by_cases hk : k < n
            · obtain ⟨ad, z, rfl, hbl, hcell, hz0, hz1⟩ := hU1.at_ hk
              cases q
              · by_cases hi0 : i = 0
                · subst hi0
                  go_wp2
                  go_roundg (n - (k + 1))
                  case measure => have := HK.out; omega
                  case rel => exact ⟨_, k + 1, rfl, by go_num, by omega, rfl, fun _ => rfl⟩
                · have hip : 0 < i := by omega
                  go_wp2
                  go_roundg (n - (k + 1))
                  case measure => have := HK.out; omega
                  case rel => exact ⟨_, k + 1, rfl, by go_num, by omega, rfl, fun h => absurd h hi0⟩
              · go_wp2
                go_roundg (n - (k + 1))
                case measure => have := HK.out; omega
                case rel => exact ⟨_, k + 1, rfl, by go_num, by omega, rfl, fun h => HQ.out h⟩
            · have hi' : i < s.data.toList.length := by rw [← Lib.size_eq]; exact hi
              have hts := List.take_succ_eq_append_getElem hi'
              obtain ⟨u, hu⟩ : ∃ u, s.extract i (i + 1) = u := ⟨_, rfl⟩
              have hud : u.data.toList = [s.data.toList[i]] := by
                rw [← hu, extract_mid, hts]
                show List.drop i (List.take i s.data.toList ++ [s.data.toList[i]]) = _
                rw [List.drop_append_of_le_length (by rw [List.length_take]; omega), List.drop_eq_nil_of_le (by rw [List.length_take]; omega)]
                rfl
              have hus : u.size = 1 := by rw [Lib.size_eq, hud]; rfl
              have HX := Lib.hid (And.intro hts hud)
              clear hts hud
              cases q
              · go_wp2
                go_roundg (s.size - (i + 1))
                case measure => have := HI.out; omega
                case rel =>
                  refine ⟨tx ++ u, i + 1, rfl, by go_num, by omega, rfl, by rw [ByteArray.size_append]; omega, Lib.hid ?_⟩
                  rw [ba_append, HX.out.1, HX.out.2]
                  exact HT.out.plain _
              · have hi0 : i ≠ 0 := fun h => by have := HQ.out h; cases this
                go_wp2
                go_roundg (s.size - (i + 1))
                case measure => have := HI.out; omega
                case rel =>
                  refine ⟨tx ++ ⟨#[13, 10]⟩ ++ ⟨#[9]⟩ ++ u, i + 1, rfl, by go_num, by omega, rfl, ?_, Lib.hid ?_⟩
                  · have z1 : (ByteArray.mk #[13, 10]).size = 2 := rfl
                    have z2 : (ByteArray.mk #[9]).size = 1 := rfl
                    rw [ByteArray.size_append, ByteArray.size_append, ByteArray.size_append, z1, z2]; omega
                  · rw [ba_append, ba_append, ba_append, HX.out.1, HX.out.2]
                    exact HT.out.cut (by
                      intro h
                      have := congrArg List.length h
                      rw [List.length_take, List.length_nil] at this
                      omega) _
        · obtain rfl : i = s.size := by have := HI.out; omega
          have z1 : (ByteArray.mk #[13, 10]).size = 2 := rfl
          have hts : s.data.toList.take s.size = s.data.toList := List.take_of_length_le (by rw [← Lib.size_eq]; exact Nat.le_refl _)
          have hcut := HT.out
          rw [hts] at hcut
          have hsn : s.data.toList ≠ [] := by intro h; have := Lib.size_eq s; rw [h, List.length_nil] at this; omega
          have hun := hcut.ends (.inr rfl) (.inr rfl) hsn HC.out.1 HCL.out HC.out.2 (by rw [← Lib.size_eq]; omega) (by
            rw [List.length_append, ← Lib.size_eq]
            show tx.size + 2 ≤ _
            omega)
          have cU := unfold_any (tx ++ ⟨#[13, 10]⟩) w1 (ht.keep hg1) (by rw [ByteArray.size_append, z1]; omega)
          have ed : (tx ++ ByteArray.mk #[13, 10]).data.toList = tx.data.toList ++ [13, 10] := ba_append _ _
          rw [ed, hun] at cU
          simp only at cU
          clear hun ed hcut hsn hts z1
          go_wp2_with fail
          refine cU.mono ?_
          rintro e w4 ⟨A4, n4, c4, rfl, hown4, hg4⟩
          obtain rfl : n4 = 1 := by simpa [sc] using hown4.len.symm
          obtain ⟨gb, rfl, _, _, hcells⟩ := hown4.cells (by omega)
          have hc0 : w4.cell? ⟨gb, 0, none⟩ = some (.string s) := hcells 0 _ rfl
          clear hcells
          go_wp2
          go_ret
          exact ⟨rfl, hg1.trans hg4⟩
set_option maxHeartbeats 8000000 in
set_option maxRecDepth 100000 in
theorem foldother_lt (s : ByteArray) (A : Option Addr) (n c : Nat) (zs : List Int) (w : World) (ht : Tab w) (hU : U16s w w.heap.size A n zs) (hn : n ≤ 140737488355328)
    (h5 : s.size ≤ 500) (h0 : 0 < s.size) (h32 : ((s[0].toNat : Int) == 32) = false) (h9 : ((s[0].toNat : Int) == 9) = false) (hv : Lib.validD s.data.toList = true) :
    Calls Tryd.prog 6 #[.string s, .slice A n c, .bool true, .bool true] w fun e w' => e = .returned (.bool true) ∧ Gr w w' := by
  have hct := ct_head s h0
  rw [h32, h9] at hct
  have cV := fun w => utf_any s w (by omega)
  rw [hv] at cV
  have hne0 : s.size ≠ 0 := by omega
  have h5d : decide ((500 : Int) < (s.size : Int)) = false := by simp; omega
  have h0d : ((s.size : Int) == 0) = false := by rw [beq_eq_false_iff_ne]; omega
  have HC := Lib.hid (And.intro hct hv)
  clear hct hv
  go_enter Tryd.func6, Tryd.ntmps6
  go_wp2_with fail
  refine (awake_any _ ht).mono ?_
  rintro e w1 ⟨rfl, hg1⟩
  have hU1 := hU.keep hg1.below
  have hlt1 := hg1.lt
  go_wp2_with (go_at_call 14; refine (cV _).mono ?_; rintro e w2 ⟨rfl, rfl⟩)
  go_loopg [49] s.size (fun g v wx => ∃ j : Nat, v = .int .i64 (j : Int) ∧ j + g = s.size ∧ w1 = wx ∧ Hid (∀ (i : Nat) (b : UInt8), i < j → s.data.toList[i]? = some b → b ≠ 13 ∧ b ≠ 10))
  case atStart => exact ⟨0, rfl, by omega, rfl, Lib.hid (fun i b h => by omega)⟩
  case round =>
    obtain ⟨j, rfl, hjg, rfl, HO⟩ := hrel
    have HJ := Lib.hid hjg
    clear hjg
    by_cases hj : j < s.size
    · have hat := at_toNat s j hj
      have HA := Lib.hid hat
      clear hat
      cases h3 : ((s[j].toNat : Int) == 13)
      · cases h4 : ((s[j].toNat : Int) == 10)
        · go_wp2
          go_roundg (s.size - (j + 1))
          case measure => have := HJ.out; omega
          case rel =>
            refine ⟨j + 1, by go_num, by omega, rfl, Lib.hid (fun i b hi hb => ?_)⟩
            rcases Nat.lt_or_ge i j with h5 | h5
            · exact HO.out i b h5 hb
            · have : i = j := by omega
              subst this
              rw [HA.out] at hb
              obtain rfl := Option.some.inj hb
              constructor
              · intro e; rw [e] at h3; cases h3
              · intro e; rw [e] at h4; cases h4
        · go_wp2
          go_ret
          exact ⟨rfl, hg1⟩
      · go_wp2
        go_ret
        exact ⟨rfl, hg1⟩
    · have hcl : ∀ x ∈ s.data.toList, x ≠ 13 ∧ x ≠ 10 := by
        intro x hx
        obtain ⟨i, hi, rfl⟩ := List.getElem_of_mem hx
        exact HO.out i _ (by rw [← Lib.size_eq] at hi; omega) (List.getElem?_eq_getElem hi)
      have HCL := Lib.hid hcl
      clear hcl
      go_wp2
      go_loopg [12, 67] s.size (fun g v12 v wx => ∃ tx : ByteArray, ∃ i : Nat, v12 = .string tx ∧ v = .int .i64 (i : Int) ∧ i + g = s.size ∧ w1 = wx ∧ tx.size ≤ 4 * i ∧ Hid (Fd.Cut [10] 9 tx.data.toList (s.data.toList.take i)))
      case atStart => exact ⟨⟨#[]⟩, 0, rfl, rfl, by omega, rfl, by decide, Lib.hid (Fd.Cut.nil _ _)⟩
      case round =>
        obtain ⟨tx, i, rfl, rfl, hig, rfl, htx, HT⟩ := hrel
        have HI := Lib.hid hig
        clear hig
        by_cases hi : i < s.size
        · go_wp2
          go_loopg [14, 72] n (fun g v14 v wx => ∃ q : Bool, ∃ k : Nat, v14 = .bool q ∧ v = .int .i64 (k : Int) ∧ k + g = n ∧ w1 = wx ∧ (i = 0 → q = false))
          case atStart => exact ⟨false, 0, rfl, rfl, by omega, rfl, fun _ => rfl⟩
          case round =>
            obtain ⟨q, k, rfl, rfl, hkg, rfl, hq⟩ := hrel
            have HK := Lib.hid hkg
            have HQ := Lib.hid hq
            clear hkg hq
            by_cases hk : k < n
            · obtain ⟨ad, z, rfl, hbl, hcell, hz0, hz1⟩ := hU1.at_ hk
              cases q
              · by_cases hi0 : i = 0
                · subst hi0
                  go_wp2
                  go_roundg (n - (k + 1))
                  case measure => have := HK.out; omega
                  case rel => exact ⟨_, k + 1, rfl, by go_num, by omega, rfl, fun _ => rfl⟩
                · have hip : 0 < i := by omega
                  go_wp2
                  go_roundg (n - (k + 1))
                  case measure => have := HK.out; omega
                  case rel => exact ⟨_, k + 1, rfl, by go_num, by omega, rfl, fun h => absurd h hi0⟩
              · go_wp2
                go_roundg (n - (k + 1))
                case measure => have := HK.out; omega
                case rel => exact ⟨_, k + 1, rfl, by go_num, by omega, rfl, fun h => HQ.out h⟩
            · have hi' : i < s.data.toList.length := by rw [← Lib.size_eq]; exact hi
              have hts := List.take_succ_eq_append_getElem hi'
              obtain ⟨u, hu⟩ : ∃ u, s.extract i (i + 1) = u := ⟨_, rfl⟩
              have hud : u.data.toList = [s.data.toList[i]] := by
                rw [← hu, extract_mid, hts]
                show List.drop i (List.take i s.data.toList ++ [s.data.toList[i]]) = _
                rw [List.drop_append_of_le_length (by rw [List.length_take]; omega), List.drop_eq_nil_of_le (by rw [List.length_take]; omega)]
                rfl
              have hus : u.size = 1 := by rw [Lib.size_eq, hud]; rfl
              have HX := Lib.hid (And.intro hts hud)
              clear hts hud
              cases q
              · go_wp2
                go_roundg (s.size - (i + 1))
                case measure => have := HI.out; omega
                case rel =>
                  refine ⟨tx ++ u, i + 1, rfl, by go_num, by omega, rfl, by rw [ByteArray.size_append]; omega, Lib.hid ?_⟩
                  rw [ba_append, HX.out.1, HX.out.2]
                  exact HT.out.plain _
              · have hi0 : i ≠ 0 := fun h => by have := HQ.out h; cases this
                go_wp2
                go_roundg (s.size - (i + 1))
                case measure => have := HI.out; omega
                case rel =>
                  refine ⟨tx ++ ⟨#[10]⟩ ++ ⟨#[9]⟩ ++ u, i + 1, rfl, by go_num, by omega, rfl, ?_, Lib.hid ?_⟩
                  · have z1 : (ByteArray.mk #[10]).size = 1 := rfl
                    have z2 : (ByteArray.mk #[9]).size = 1 := rfl
                    rw [ByteArray.size_append, ByteArray.size_append, ByteArray.size_append, z1, z2]; omega
                  · rw [ba_append, ba_append, ba_append, HX.out.1, HX.out.2]
                    exact HT.out.cut (by
                      intro h
                      have := congrArg List.length h
                      rw [List.length_take, List.length_nil] at this
                      omega) _
        · obtain rfl : i = s.size := by have := HI.out; omega
          have z1 : (ByteArray.mk #[10]).size = 1 := rfl
          have hts : s.data.toList.take s.size = s.data.toList := List.take_of_length_le (by rw [← Lib.size_eq]; exact Nat.le_refl _)
          have hcut := HT.out
          rw [hts] at hcut
          have hsn : s.data.toList ≠ [] := by intro h; have := Lib.size_eq s; rw [h, List.length_nil] at this; omega
          have hun := hcut.ends (.inl rfl) (.inr rfl) hsn HC.out.1 HCL.out HC.out.2 (by rw [← Lib.size_eq]; omega) (by
            rw [List.length_append, ← Lib.size_eq]
            show tx.size + 1 ≤ _
            omega)
          have cU := unfold_any (tx ++ ⟨#[10]⟩) w1 (ht.keep hg1) (by rw [ByteArray.size_append, z1]; omega)
          have ed : (tx ++ ByteArray.mk #[10]).data.toList = tx.data.toList ++ [10] := ba_append _ _
          rw [ed, hun] at cU
          simp only at cU
          clear hun ed hcut hsn hts z1
          go_wp2_with fail
          refine cU.mono ?_
          rintro e w4 ⟨A4, n4, c4, rfl, hown4, hg4⟩
          obtain rfl : n4 = 1 := by simpa [sc] using hown4.len.symm
          obtain ⟨gb, rfl, _, _, hcells⟩ := hown4.cells (by omega)
          have hc0 : w4.cell? ⟨gb, 0, none⟩ = some (.string s) := hcells 0 _ rfl
          clear hcells
          go_wp2
          go_ret
          exact ⟨rfl, hg1.trans hg4⟩
set_option maxHeartbeats 4000000 in
set_option maxRecDepth 100000 in
theorem foldother_any (s : ByteArray) (A : Option Addr) (n c : Nat) (zs : List Int) (tabs bare : Bool) (w : World) (ht : Tab w) (hs : s.size ≤ 140737488355328) (hU : U16s w w.heap.size A n zs) (hn : n ≤ 140737488355328) :
    Calls Tryd.prog 6 #[.string s, .slice A n c, .bool tabs, .bool bare] w fun e w' => e = .returned (.bool true) ∧ Gr w w' := by
  have cW := fun w ht => awake_any w ht
  by_cases h5 : 500 < s.size
  · have h5d : decide ((500 : Int) < (s.size : Int)) = true := by simp; omega
    go_enter Tryd.func6, Tryd.ntmps6
    go_wp2_with fail
    refine (cW _ ht).mono ?_
    rintro e w1 ⟨rfl, hg1⟩
    go_wp2_with fail
    refine (cW _ (ht.keep hg1)).mono ?_
    rintro e w2 ⟨rfl, hg2⟩
    go_wp2
    go_ret
    exact ⟨rfl, hg1.trans hg2⟩
  · have h5d : decide ((500 : Int) < (s.size : Int)) = false := by simp; omega
    by_cases h0 : s.size = 0
    · have h0d : ((s.size : Int) == 0) = true := by rw [h0]; rfl
      clear h0
      go_enter Tryd.func6, Tryd.ntmps6
      go_wp2_with fail
      refine (cW _ ht).mono ?_
      rintro e w1 ⟨rfl, hg1⟩
      go_wp2_with fail
      refine (cW _ (ht.keep hg1)).mono ?_
      rintro e w2 ⟨rfl, hg2⟩
      go_wp2
      go_ret
      exact ⟨rfl, hg1.trans hg2⟩
    · have hp : 0 < s.size := by omega
      have h0d : ((s.size : Int) == 0) = false := by rw [beq_eq_false_iff_ne]; omega
      cases h32 : ((s[0].toNat : Int) == 32)
      · cases h9 : ((s[0].toNat : Int) == 9)
        · cases hv : Lib.validD s.data.toList
          · have cV := fun w => utf_any s w hs
            rw [hv] at cV
            clear hv
            go_enter Tryd.func6, Tryd.ntmps6
            go_wp2_with fail
            refine (cW _ ht).mono ?_
            rintro e w1 ⟨rfl, hg1⟩
            go_wp2_with fail
            refine (cV _).mono ?_
            rintro e w2 ⟨rfl, rfl⟩
            go_wp2_with fail
            refine (cW _ (ht.keep hg1)).mono ?_
            rintro e w2 ⟨rfl, hg2⟩
            go_wp2
            go_ret
            exact ⟨rfl, hg1.trans hg2⟩
          · cases tabs
            · cases bare
              · exact foldother_cs s A n c zs w ht hU hn (by omega) hp h32 h9 hv
              · exact foldother_ls s A n c zs w ht hU hn (by omega) hp h32 h9 hv
            · cases bare
              · exact foldother_ct s A n c zs w ht hU hn (by omega) hp h32 h9 hv
              · exact foldother_lt s A n c zs w ht hU hn (by omega) hp h32 h9 hv
        · go_enter Tryd.func6, Tryd.ntmps6
          go_wp2_with fail
          refine (cW _ ht).mono ?_
          rintro e w1 ⟨rfl, hg1⟩
          go_wp2_with fail
          refine (cW _ (ht.keep hg1)).mono ?_
          rintro e w2 ⟨rfl, hg2⟩
          go_wp2
          go_ret
          exact ⟨rfl, hg1.trans hg2⟩
      · go_enter Tryd.func6, Tryd.ntmps6
        go_wp2_with fail
        refine (cW _ ht).mono ?_
        rintro e w1 ⟨rfl, hg1⟩
        go_wp2_with fail
        refine (cW _ (ht.keep hg1)).mono ?_
        rintro e w2 ⟨rfl, hg2⟩
        go_wp2
        go_ret
        exact ⟨rfl, hg1.trans hg2⟩
end Go.Proofs.YtbdfkpgcjdhcdaaDoor
