/- Contracts on the answer's Split, and on both Counts. -/
import Derived.Test.YtgjllfcnbkennaaNulS

namespace Go.Hm
theorem sum_le_len {m : List Nat} (h : ∀ y ∈ m, y < 2 ^ 1) : m.sum ≤ m.length := by
  induction m with
  | nil => simp
  | cons y m ih =>
    have := ih fun z hz => h z (by simp [hz])
    have := h y (by simp)
    simp
    omega

end Go.Hm

namespace Go.Proofs.Ytgjllfcnbkennaa
open Go.RowKit Go.Hm
set_option maxHeartbeats 2000000 in
set_option maxRecDepth 100000 in
theorem rsplit_any {w : World} {A : Option Addr} {n c : Nat} {l : List CellS} (h : Reads w w.heap.size 5 A n (recs cellV l)) (hn : n ≤ 65536) :
    Calls Try.prog 11 #[.slice A n c] w (SplitPost l w) := by
  obtain rfl := h.lenCell
  have SP := Lib.hid (split_pack hn)
  have MW := Lib.hid (marks_wid l)
  have t1 : decide (65536 < (l.length : Int)) = false := by simp; omega
  go_enter Try.func11, Try.ntmps11
  go_wp2
  clear t1
  go_loopw [4, 5, 6] (fun a r i wr => ∃ (k : Nat) (A1 A2 : Option Addr) (n1 c1 n2 c2 : Nat), i = .int .i64 (k : Int) ∧ k ≤ l.length ∧ a = .slice A1 n1 c1 ∧ r = .slice A2 n2 c2 ∧ n1 = k ∧ n2 ≤ k ∧ Own wr w.heap.size 40 (.slice A1 n1 c1) (nums .u64 (marksN (l.take k))) ∧
    wr.ownsRow w.heap.size 34 5 (.slice A2 n2 c2) n2 (recs cellV (valsN (l.take k))) ∧ Below w.heap.size w wr) (fun _ _ i _ => l.length - (intOf i).toNat)
  case atStart => exact ⟨0, none, none, 0, 0, 0, 0, rfl, by omega, rfl, rfl, rfl, by omega, by simpa [marksN, nums] using (Own.nil_ (w := w)), by simpa [valsN, recs] using (row_nil (w := w) (sz := 5)), Below.refl _ _⟩
  case round =>
    obtain ⟨k, A1, A2, n1, c1, n2, c2, rfl, hk, rfl, rfl, hn1, hnk, o, u, b⟩ := hrel
    by_cases hlt : k < l.length
    · obtain ⟨ad, rfl, _, d0, d1, d2, d3, d4⟩ := (Reads.later h b).cell5 hlt
      have MS := Lib.hid (marks_snoc l k hlt)
      have VS := Lib.hid (vals_snoc l k hlt)
      have HR := Lib.hid (fun (W : World) (hW : Below w.heap.size w W) => (Reads.later h hW).cell5 hlt)
      generalize l.getD k (false, 0, [], 0, 0) = x at *
      obtain ⟨xb, xn, xs, xx, xy⟩ := x
      simp only at d0 d1 d2 d3 d4 HR
      have i1 : (k : Int) < (l.length : Int) := by omega
      have z := b.size
      have hz1 : n1 ≤ 65536 := by omega
      have HN := Lib.hid hn1
      cases xb with
      | true =>
        have MS := MS.out
        have VS := VS.out
        simp only [notN, if_true, List.append_nil] at MS VS
        have MS := Lib.hid MS
        have VS := Lib.hid VS
        clear hn1
        go_wp2_with (refine wpList_pushN elW rfl (.tmp 23) (.tmp 24) rfl (W := w) (B := w.heap.size) o rfl rfl 0 rfl b (Nat.le_refl _) z (by omega) (by simp only [maxLen]; omega) ?_
                     intro A5 c5 w5 _ _ o5 g5 b5 _ _)
        go_roundw
        case rel => exact ⟨k + 1, _, _, _, _, _, _, by go_num, by omega, rfl, rfl, by have := HN.out; omega, by omega, by rw [MS.out]; exact o5, by rw [VS.out]; exact row_touch u (Turns.row g5) (row_row u o (by decide)), b5⟩
        case measure => simp [intOf]; omega
      | false =>
        have MS := MS.out
        have VS := VS.out
        simp only [notN, Bool.false_eq_true, if_false] at MS VS
        have MS := Lib.hid MS
        have VS := Lib.hid VS
        clear hn1
        go_wp2_with (first
          | (refine wpList_pushN elW rfl (.tmp 26) (.tmp 27) rfl (W := w) (B := w.heap.size) o rfl rfl 1 rfl b (Nat.le_refl _) z (by omega) (by simp only [maxLen]; omega) ?_
             intro A5 c5 w5 _ _ o5 g5 b5 _ _
             have u5 := row_touch u (Turns.row g5) (row_row u o (by decide))
             obtain ⟨ad', ea, _, q0, q1, q2, q3, q4⟩ := HR.out w5 b5
             injection ea with ea
             subst ea
             have z5 := b5.size
             clear o u)
          | (refine wpList_pushR elCell rfl (.tmp 29) (.tmp 34) rfl (W := w) (B := w.heap.size) (base := w.heap.size) (n := n2) u5 rfl rfl b5 (Nat.le_refl _) z5 rfl (by simp [Value.oneCell']) (by omega) (by simp only [maxLen]; omega) ?_
             intro A6 c6 w6 _ _ u6 g6 b6 _ _))
        go_roundw
        case rel => exact ⟨k + 1, _, _, _, _, _, _, by go_num, by omega, rfl, rfl, by have := HN.out; omega, by omega, by rw [MS.out]; exact row_touch o5 (Turns.row g6) (row_row o5 u5 (by decide)), by rw [VS.out, recs_append]; exact u6, b6⟩
        case measure => simp [intOf]; omega
    · obtain rfl : k = l.length := by omega
      subst hn1
      rw [List.take_length] at o u
      have P := rpack_any (c := c1) 1 o.reads MW.out.2 (by omega) (by omega) (by omega)
      rw [SP.out] at P
      have P := Lib.hid P
      clear hlt o
      go_wp2_with fail
      refine P.out.mono ?_
      rintro e w5 ⟨A5, n5, c5, rfl, o5, b5⟩
      go_wp2
      go_ret2
      have z := b.size
      exact ⟨_, _, _, _, _, _, rfl, o5.base_le z, row_later u b5, below_then b b5 (Nat.le_refl _)⟩
set_option maxHeartbeats 2000000 in
set_option maxRecDepth 100000 in
theorem count_any {w : World} {A : Option Addr} {m c : Nat} {b : List Nat} {n : Int} (h : Reads w w.heap.size 1 A m (nums .u8 b)) (h8 : ∀ x ∈ b, x < 256) (hm : m ≤ 9223372036854775807) (hn0 : -9223372036854775808 ≤ n) (hn : n ≤ 9223372036854775807) :
    Calls Try.prog 15 #[.slice A m c, .int .i64 n] w (NewPost (.int .i64 (cntN (unpackO b 1 n))) w) := by
  have P := unpack_any (c := c) 1 n h h8 hm (by omega) (by omega) hn0 hn
  have HU := Lib.hid (fun (l : List Nat) (hh : unpackO b 1 n = some l) => unpack1 h8 hh)
  generalize unpackO b 1 n = U at *
  cases U with
  | none =>
    have P := Lib.hid P
    go_enter Try.func15, Try.ntmps15
    go_wp2_with fail
    refine P.out.mono ?_
    rintro e w1 ⟨rfl, b1⟩
    go_wp2
    go_ret
    exact ⟨rfl, b1⟩
  | some l =>
    obtain ⟨_, _, q3, q4⟩ := HU.out l rfl
    have hsl := sum_le_len q3
    have P := Lib.hid P
    have CN := Lib.hid (show cntN (some l) = ((l.take l.length).sum : Nat) by rw [List.take_length]; rfl)
    generalize cntN (some l) = O at *
    clear HU
    go_enter Try.func15, Try.ntmps15
    go_wp2_with fail
    refine P.out.mono ?_
    rintro e w1 ⟨A1, n1, c1, rfl, o1, b1⟩
    obtain rfl : n1 = l.length := by have := o1.len; rwa [nums_length] at this
    go_wp2
    go_loopw [7, 20] (fun s i wr => ∃ k : Nat, i = .int .i64 (k : Int) ∧ k ≤ l.length ∧ s = .int .i64 (((l.take k).sum : Nat) : Int) ∧ w1 = wr) (fun _ i _ => l.length - (intOf i).toNat)
    case atStart => exact ⟨0, rfl, by omega, by simp, rfl⟩
    case round =>
      obtain ⟨k, rfl, hk, rfl, rfl⟩ := hrel
      by_cases hlt : k < l.length
      · obtain ⟨ad, rfl, _, c0⟩ := o1.reads.num hlt
        have HS := Lib.hid (sum_take hlt)
        have hs1 := sum_take_le (m := l) k
        have hy : l.getD k 0 < 2 := q3 _ (mem_getDC 0 hlt)
        generalize l.getD k 0 = y at *
        generalize (l.take k).sum = s at *
        have i1 : (k : Int) < (l.length : Int) := by omega
        have hw1 : IntKind.i64.wrap (y : Int) = (y : Int) := by rw [IntKind.wrap_i64]; omega
        have hw2 : IntKind.i64.wrap ((s : Int) + (y : Int)) = (s : Int) + (y : Int) := by rw [IntKind.wrap_i64]; omega
        go_wp2
        go_roundw
        case rel => exact ⟨k + 1, by go_num, by omega, by rw [HS.out]; simp, trivial⟩
        case measure => simp [intOf]; omega
      · obtain rfl : k = l.length := by omega
        rw [← CN.out]
        go_wp2
        go_ret
        exact ⟨rfl, b1⟩
set_option maxHeartbeats 2000000 in
set_option maxRecDepth 100000 in
theorem rcount_any {w : World} {A : Option Addr} {m c : Nat} {b : List Nat} {n : Int} (h : Reads w w.heap.size 1 A m (nums .u8 b)) (h8 : ∀ x ∈ b, x < 256) (hm : m ≤ 9223372036854775807) (hn0 : -9223372036854775808 ≤ n) (hn : n ≤ 9223372036854775807) :
    Calls Try.prog 16 #[.slice A m c, .int .i64 n] w (NewPost (.int .i64 (cntN (unpackO b 1 n))) w) := by
  have P := runpack_any (c := c) 1 n h h8 hm (by omega) (by omega) hn0 hn
  have HU := Lib.hid (fun (l : List Nat) (hh : unpackO b 1 n = some l) => unpack1 h8 hh)
  generalize unpackO b 1 n = U at *
  cases U with
  | none =>
    have P := Lib.hid P
    go_enter Try.func16, Try.ntmps16
    go_wp2_with fail
    refine P.out.mono ?_
    rintro e w1 ⟨rfl, b1⟩
    go_wp2
    go_ret
    exact ⟨rfl, b1⟩
  | some l =>
    obtain ⟨_, _, q3, q4⟩ := HU.out l rfl
    have hsl := sum_le_len q3
    have P := Lib.hid P
    have CN := Lib.hid (show cntN (some l) = ((l.take l.length).sum : Nat) by rw [List.take_length]; rfl)
    generalize cntN (some l) = O at *
    clear HU
    go_enter Try.func16, Try.ntmps16
    go_wp2_with fail
    refine P.out.mono ?_
    rintro e w1 ⟨A1, n1, c1, rfl, o1, b1⟩
    obtain rfl : n1 = l.length := by have := o1.len; rwa [nums_length] at this
    go_wp2
    go_loopw [7, 8] (fun s i wr => ∃ k : Nat, i = .int .i64 (k : Int) ∧ k ≤ l.length ∧ s = .int .i64 (((l.take k).sum : Nat) : Int) ∧ w1 = wr) (fun _ i _ => l.length - (intOf i).toNat)
    case atStart => exact ⟨0, rfl, by omega, by simp, rfl⟩
    case round =>
      obtain ⟨k, rfl, hk, rfl, rfl⟩ := hrel
      by_cases hlt : k < l.length
      · obtain ⟨ad, rfl, _, c0⟩ := o1.reads.num hlt
        have HS := Lib.hid (sum_take hlt)
        have hs1 := sum_take_le (m := l) k
        have hy : l.getD k 0 < 2 := q3 _ (mem_getDC 0 hlt)
        generalize l.getD k 0 = y at *
        generalize (l.take k).sum = s at *
        have i1 : (k : Int) < (l.length : Int) := by omega
        have hw1 : IntKind.i64.wrap (y : Int) = (y : Int) := by rw [IntKind.wrap_i64]; omega
        have hw2 : IntKind.i64.wrap ((s : Int) + (y : Int)) = (s : Int) + (y : Int) := by rw [IntKind.wrap_i64]; omega
        go_wp2
        go_roundw
        case rel => exact ⟨k + 1, by go_num, by omega, by rw [HS.out]; simp, trivial⟩
        case measure => simp [intOf]; omega
      · obtain rfl : k = l.length := by omega
        rw [← CN.out]
        go_wp2
        go_ret
        exact ⟨rfl, b1⟩

end Go.Proofs.Ytgjllfcnbkennaa
