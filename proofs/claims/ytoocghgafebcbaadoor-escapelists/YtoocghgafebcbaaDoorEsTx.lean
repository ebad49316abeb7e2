/- What escape.Text and escape.Param return. -/
import Derived.Test.YtoocghgafebcbaaDoorEsFn
namespace Go.Proofs.YtoocghgafebcbaaDoor
open Go.RowKit

/- append(out, bytes..) -/
theorem ap_bytes {ops : Array Oper} {rest : List Oper} {o : Oper} {a : Act} {Q : Exit → Act → World → Prop} (w : World) (hgd : o.guard = none) (sl x : Operand)
    (ho : o.op = .call { callee := .builtin .append, args := #[sl, x], argTypes := #[35, 35] })
    (B : Nat) (A : Option Addr) (n c : Nat) (l t : List UInt8) (hs : a.eval sl = .slice A n c) (hown : OwnV w B 5 A n c (bc l)) (m c2 : Nat) (hx : a.eval x = .slice (some ⟨w.heap.size, 0, none⟩) m c2)
    (hm : t.length = m) (hlen : n + m ≤ 1000000) (hB : B ≤ w.heap.size)
    (h : ∀ A' c' w', OwnV w' B 5 A' (n + m) c' (bc (l ++ t)) → Below B w w' → wpList Tryd.prog ops Q rest (a.put o.dst (.slice A' (n + m) c')) w') : wpList Tryd.prog ops Q (o :: rest) a (w.alloc (.cells (bc t).toArray 5)) := by
  refine ap_lit w hgd sl x 35 5 (.int .u8 0) 1 Tryd.underlying35 info_u8 rfl (by omega) ho B A n c (bc l) (bc t) hs hown m c2 hx (by simpa [bc] using hm) ?_ hlen hB ?_
  · intro u hu
    obtain ⟨b, _, rfl⟩ := List.mem_map.1 hu
    rfl
  · intro A' c' w' h1 h2
    rw [← bc_append] at h1
    exact h A' c' w' h1 h2
namespace Es
theorem txT_ok {l : List UInt8} (h : clE true l = 0) : txT l = tx l := by unfold txT; rw [if_pos h]
theorem txT_no {l : List UInt8} (h : clE true l ≠ 0) : txT l = [] := by unfold txT; rw [if_neg h]
theorem pqT_ok {l : List UInt8} (h : clE true l = 0) : pqT l = pq l := by unfold pqT; rw [if_pos h]
theorem pqT_no {l : List UInt8} (h : clE true l ≠ 0) : pqT l = [] := by unfold pqT; rw [if_neg h]
end Es
theorem tx_step (s : ByteArray) (j : Nat) (h : j < s.size) : Es.tx (s.data.toList.take (j + 1)) = Es.tx (s.data.toList.take j) ++ Es.t1 s[j] := by
  have h2 : j < s.data.toList.length := by rw [← Lib.size_eq]; exact h
  exact Es.tx_snoc _ j h2
theorem pm_step (s : ByteArray) (j : Nat) (h : j < s.size) : Es.pm (s.data.toList.take (j + 1)) = Es.pm (s.data.toList.take j) ++ Es.p1 s[j] := by
  have h2 : j < s.data.toList.length := by rw [← Lib.size_eq]; exact h
  exact Es.pm_snoc _ j h2
theorem ctl_true : Es.ctl true = ⟨#[9, 10]⟩ := rfl
theorem ctl_false : Es.ctl false = ⟨#[9]⟩ := rfl
set_option maxHeartbeats 4000000 in
set_option maxRecDepth 100000 in
theorem text_any (s : ByteArray) (w : World) (ht : Tab w) (hs : s.size ≤ 400000) :
    Calls Tryd.prog 8 #[.string s] w fun e w' => e = .returned (.tuple #[.string ⟨(Es.txT s.data.toList).toArray⟩, .int .i64 (Es.clE true s.data.toList)]) ∧ Gr w w' := by
  have cC := check_any true s w ht (by omega)
  rw [ctl_true] at cC
  by_cases hE : Es.clE true s.data.toList = 0
  · rw [Es.txT_ok hE]
    rw [hE] at cC ⊢
    obtain ⟨T, hT⟩ : ∃ T, Es.tx s.data.toList = T := ⟨_, rfl⟩
    rw [hT]
    have HT := Lib.hid hT
    clear hT hE
    go_enter Tryd.func8, Tryd.ntmps8
    go_wp2_with (go_at_call 20; refine cC.mono ?_; rintro e w1 ⟨rfl, hg1⟩)
    go_loopg [5, 15] s.size (fun g v5 v wx => ∃ A2 n2 c2, ∃ j : Nat, v5 = .slice A2 n2 c2 ∧ v = .int .i64 (j : Int) ∧ j + g = s.size ∧ Below w.heap.size w wx ∧ w.heap.size ≤ wx.heap.size ∧ n2 ≤ 2 * j ∧ OwnV wx w.heap.size 5 A2 n2 c2 (bc (Es.tx (s.data.toList.take j))))
    case atStart => exact ⟨_, _, _, 0, rfl, rfl, by omega, hg1.below, hg1.lt, by omega, OwnV.nil _ _ _⟩
    case round =>
      obtain ⟨A2, n2, c2, j, rfl, rfl, hjg, hb2, hsz2, hn2, hown2⟩ := hrel
      have HJ := Lib.hid hjg
      clear hjg
      by_cases hj : j < s.size
      · have HS := Lib.hid (tx_step s j hj)
        cases h92 : ((s[j].toNat : Int) == 92)
        · cases h59 : ((s[j].toNat : Int) == 59)
          · cases h44 : ((s[j].toNat : Int) == 44)
            · cases h10 : ((s[j].toNat : Int) == 10)
              · have HT1 := Lib.hid (Es.t1_else (by_f 10 h10) (by_f 92 h92) (by_f 59 h59) (by_f 44 h44))
                go_wp2_with (at_builtin; refine ap_bytes wr rfl (.tmp 22) (.tmp 24) rfl w.heap.size A2 n2 c2 _ [s[j]] rfl hown2 1 1 rfl rfl (by omega) hsz2 ?_; intro A3 c3 w3 hown3 hb3)
                go_roundg (s.size - (j + 1))
                case measure => have := HJ.out; omega
                case rel => exact ⟨_, _, _, j + 1, rfl, by go_num, by omega, hb2.trans hb3, by have := hb3.size; omega, by omega, by rw [HS.out, HT1.out]; exact hown3⟩
              · have HT1 := Lib.hid (show Es.t1 s[j] = [92, 110] by rw [by_t 10 h10]; rfl)
                go_wp2_with (at_builtin; refine ap_bytes wr rfl (.tmp 36) (.tmp 37) rfl w.heap.size A2 n2 c2 _ [92, 110] rfl hown2 2 2 rfl rfl (by omega) hsz2 ?_; intro A3 c3 w3 hown3 hb3)
                go_roundg (s.size - (j + 1))
                case measure => have := HJ.out; omega
                case rel => exact ⟨_, _, _, j + 1, rfl, by go_num, by omega, hb2.trans hb3, by have := hb3.size; omega, by omega, by rw [HS.out, HT1.out]; exact hown3⟩
            · have HT1 := Lib.hid (Es.t1_esc (b := s[j]) (.inr (.inr (by_t 44 h44))))
              go_wp2_with (at_builtin; refine ap_bytes wr rfl (.tmp 30) (.tmp 32) rfl w.heap.size A2 n2 c2 _ [92, s[j]] rfl hown2 2 2 rfl rfl (by omega) hsz2 ?_; intro A3 c3 w3 hown3 hb3)
              go_roundg (s.size - (j + 1))
              case measure => have := HJ.out; omega
              case rel => exact ⟨_, _, _, j + 1, rfl, by go_num, by omega, hb2.trans hb3, by have := hb3.size; omega, by omega, by rw [HS.out, HT1.out]; exact hown3⟩
          · have HT1 := Lib.hid (Es.t1_esc (b := s[j]) (.inr (.inl (by_t 59 h59))))
            go_wp2_with (at_builtin; refine ap_bytes wr rfl (.tmp 30) (.tmp 32) rfl w.heap.size A2 n2 c2 _ [92, s[j]] rfl hown2 2 2 rfl rfl (by omega) hsz2 ?_; intro A3 c3 w3 hown3 hb3)
            go_roundg (s.size - (j + 1))
            case measure => have := HJ.out; omega
            case rel => exact ⟨_, _, _, j + 1, rfl, by go_num, by omega, hb2.trans hb3, by have := hb3.size; omega, by omega, by rw [HS.out, HT1.out]; exact hown3⟩
        · have HT1 := Lib.hid (Es.t1_esc (b := s[j]) (.inl (by_t 92 h92)))
          go_wp2_with (at_builtin; refine ap_bytes wr rfl (.tmp 30) (.tmp 32) rfl w.heap.size A2 n2 c2 _ [92, s[j]] rfl hown2 2 2 rfl rfl (by omega) hsz2 ?_; intro A3 c3 w3 hown3 hb3)
          go_roundg (s.size - (j + 1))
          case measure => have := HJ.out; omega
          case rel => exact ⟨_, _, _, j + 1, rfl, by go_num, by omega, hb2.trans hb3, by have := hb3.size; omega, by omega, by rw [HS.out, HT1.out]; exact hown3⟩
      · obtain rfl : j = s.size := by have := HJ.out; omega
        rw [take_end s s.size (Nat.le_refl _), HT.out] at hown2
        have hcv := conv_back hown2
        go_wp2
        go_ret2
        exact ⟨rfl, ⟨hb2⟩⟩
  · rw [Es.txT_no hE]
    have hEn : ((Es.clE true s.data.toList : Int) != 0) = true := by simpa using hE
    generalize Es.clE true s.data.toList = E at *
    clear hE
    go_enter Tryd.func8, Tryd.ntmps8
    go_wp2_with (go_at_call 20; refine cC.mono ?_; rintro e w1 ⟨rfl, hg1⟩)
    go_ret2
    exact ⟨rfl, hg1⟩
end Go.Proofs.YtoocghgafebcbaaDoor
