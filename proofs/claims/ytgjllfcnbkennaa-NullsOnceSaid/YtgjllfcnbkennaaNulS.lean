/- Contracts on nulls.Split and its answer. -/
import Derived.Test.YtgjllfcnbkennaaNul
import Derived.Test.YtgjllfcnbkennaaUpR
import Derived.Test.YtgjllfcnbkennaaOpt
import Derived.Outline

namespace Go.Proofs.Ytgjllfcnbkennaa
open Go.RowKit Go.Hm
theorem elCell : ElT Try.prog 22 34 (.agg #[.bool false, .int .i64 0, .string ⟨#[]⟩, .int .i64 0, .int .i64 0]) 5 48 := ⟨by kernel_rfl, by kernel_rfl, rfl, by omega⟩
/-- What Split answers. -/
def SplitPost (l : List CellS) (w : World) (e : Ending) (w' : World) : Prop := ∃ A n c A2 n2 c2, e = .returned (.tuple #[.slice A n c, .slice A2 n2 c2]) ∧
  Own w' w.heap.size 5 (.slice A n c) (nums .u8 (splitB l)) ∧ w'.ownsRow w.heap.size 34 5 (.slice A2 n2 c2) n2 (recs cellV (valsN l)) ∧ New w w'
theorem set_mid (a : List Nat) (x y : Nat) (b : List Nat) {k : Nat} (h : a.length = k) : (a ++ x :: b).set k y = (a ++ [y]) ++ b := by
  subst h
  rw [List.set_append_right _ _ (Nat.le_refl _)]
  simp
set_option maxHeartbeats 2000000 in
set_option maxRecDepth 100000 in
theorem split_any {w : World} {A : Option Addr} {n c : Nat} {l : List CellS} (h : Reads w w.heap.size 5 A n (recs cellV l)) (hn : n ≤ 65536) :
    Calls Try.prog 10 #[.slice A n c] w (SplitPost l w) := by
  obtain rfl := h.lenCell
  have SP := Lib.hid (split_pack hn)
  have MW := Lib.hid (marks_wid l)
  go_enter Try.func10, Try.ntmps10
  go_wp2_with (refine wpList_mk elW rfl (.tmp 11) (.tmp 11) rfl (W := w) (B := w.heap.size) l.length l.length rfl rfl rfl rfl (Nat.le_refl _) (Below.refl _ _) (Nat.le_refl _) rfl (by omega) (by simp only [maxLen]; omega) ?_
               intro w1 o1 _ b1 s1)
  go_loopw [5, 15] (fun a i wr => ∃ (k : Nat) (A2 : Option Addr) (n2 c2 : Nat), i = .int .i64 (k : Int) ∧ k ≤ l.length ∧ a = .slice A2 n2 c2 ∧ n2 ≤ k ∧ Own wr w.heap.size 40 (.slice (some ⟨w.heap.size, 0, none⟩) l.length l.length) (nums .u64 (marksN (l.take k) ++ List.replicate (l.length - k) 0)) ∧
    wr.ownsRow w.heap.size 34 5 (.slice A2 n2 c2) n2 (recs cellV (valsN (l.take k))) ∧ Below w.heap.size w wr) (fun _ i _ => l.length - (intOf i).toNat)
  case atStart => exact ⟨0, none, 0, 0, rfl, by omega, rfl, by omega, by simpa [marksN, nums_replicate] using o1, by simpa [valsN, recs] using (row_nil (w := w1) (sz := 5)), b1⟩
  case round =>
    clear o1 b1 s1
    obtain ⟨k, A2, n2, c2, rfl, hk, rfl, hnk, o, u, b⟩ := hrel
    by_cases hlt : k < l.length
    · obtain ⟨ad, rfl, _, d0, d1, d2, d3, d4⟩ := (Reads.later h b).cell5 hlt
      have MS := Lib.hid (marks_snoc l k hlt)
      have VS := Lib.hid (vals_snoc l k hlt)
      generalize l.getD k (false, 0, [], 0, 0) = x at *
      obtain ⟨xb, xn, xs, xx, xy⟩ := x
      simp only at d0 d1 d2 d3 d4
      have hrep : List.replicate (l.length - k) (0 : Nat) = 0 :: List.replicate (l.length - (k + 1)) 0 := by rw [show l.length - k = (l.length - (k + 1)) + 1 by omega]; rfl
      rw [hrep] at o
      have hml : (marksN (l.take k)).length = k := by rw [marks_len, List.length_take]; omega
      have i1 : (k : Int) < (l.length : Int) := by omega
      obtain ⟨W2, hW2⟩ : ∃ W, W = wr.alloc (.cells #[.bool xb, .int .i64 xn, .string (bstr xs), .int .i64 xx, .int .i64 xy] 34) := ⟨_, rfl⟩
      have b2 : New wr W2 := by rw [hW2]; exact (Below.refl _ _).alloc (Nat.le_refl _) _
      have B2 : Blk W2 wr.heap.size 34 #[.bool xb, .int .i64 xn, .string (bstr xs), .int .i64 xx, .int .i64 xy] := by rw [hW2]; exact Blk.new _ _ _
      have o2 := o.later b2
      have u2 := row_later u b2
      have b02 := below_then b b2 (Nat.le_refl _)
      obtain ⟨p0, p1, p2, p3, p4⟩ := cells5 B2
      have HW2 := Lib.hid hW2
      cases xb with
      | true =>
        have MS := MS.out
        have VS := VS.out
        simp only [notN, if_true, List.append_nil] at MS VS
        have MS := Lib.hid MS
        have VS := Lib.hid VS
        rw [hW2] at p0 p1 p2 p3 p4
        clear hW2 o u b
        go_wp2_with fail
        rw [← HW2.out]
        go_roundw
        case rel => exact ⟨k + 1, _, _, _, by go_num, by omega, rfl, by omega, by rw [MS.out, List.append_assoc]; exact o2, by rw [VS.out]; exact u2, b02⟩
        case measure => simp [intOf]; omega
      | false =>
        have MS := MS.out
        have VS := VS.out
        simp only [notN, Bool.false_eq_true, if_false] at MS VS
        have MS := Lib.hid MS
        have VS := Lib.hid VS
        obtain ⟨hg0, hgl, hc, hf, hset⟩ := o2.num0 (i := k) hlt
        have o3 := hset 1
        rw [set_mid _ _ _ _ hml] at o3
        have hc0 : (marksN (l.take k) ++ 0 :: List.replicate (l.length - (k + 1)) 0).getD k 0 = 0 := by
          rw [List.getD_eq_getElem?_getD, List.getElem?_append_right (by omega), hml, Nat.sub_self]; rfl
        rw [hc0] at hc
        rw [hW2] at p0 p1 p2 p3 p4 hc hf
        obtain ⟨W3, hW3⟩ : ∃ W, W = W2.setCell ⟨w.heap.size, k, none⟩ (.int .u64 1) := ⟨_, rfl⟩
        have g3 : W2.grownBy W3 (some w.heap.size) := by rw [hW3]; exact ⟨rfl, rfl, rfl, by simp [World.setCell], fun k _ hk => Below.heap_setCell _ _ _ _ (by simpa using hk)⟩
        obtain ⟨cs3, M3⟩ := o2.row w.heap.size rfl
        have u3 := World.ownsRow.kept u2 g3 (.inr (row_blk_ne u2 M3 (by decide)))
        have B3 := B2.grown g3 (by have := Blk.ne_ B2 M3 (by decide); simpa using this)
        have b03 : Below w.heap.size w W3 := b02.grown g3 b02.size (fun k hk => by injection hk with hk; omega)
        have o3 : Own W3 w.heap.size 40 (.slice (some ⟨w.heap.size, 0, none⟩) l.length l.length) (nums .u64 (marksN (l.take k) ++ [1] ++ List.replicate (l.length - (k + 1)) 0)) := by rw [hW3]; exact o3
        have HW3 := Lib.hid (show W3 = (wr.alloc (.cells #[.bool false, .int .i64 xn, .string (bstr xs), .int .i64 xx, .int .i64 xy] 34)).setCell ⟨w.heap.size, k, none⟩ (.int .u64 1) by rw [hW3, hW2])
        obtain ⟨q0, q1, q2, q3, q4⟩ := cells5 B3
        rw [HW3.out] at q0 q1 q2 q3 q4
        obtain ⟨cs4, M4⟩ := o3.row w.heap.size rfl
        have z3 := b03.size
        have HZ3 := Lib.hid (show wr.heap.size + 1 = W3.heap.size by rw [hW3, hW2]; simp [World.setCell])
        clear hW2 hW3 hset hc0 o u b o2 u2 B2 b02 M3 g3
        go_wp2_with (first
          | (rw [← HW3.out]
             refine wpList_pushR elCell rfl (.tmp 26) (.tmp 28) rfl (W := w) (B := w.heap.size) (base := w.heap.size) (n := n2) u3 rfl (by rw [← HZ3.out]; rfl) b03 (Nat.le_refl _) z3 rfl (by simp [Value.oneCell']) (by omega) (by simp only [maxLen]; omega) ?_
             intro A5 c5 w5 _ _ u5 g5 b5 _ _))
        go_roundw
        case rel => exact ⟨k + 1, _, _, _, by go_num, by omega, rfl, by omega, by rw [MS.out]; exact o3.kept g5 (.inr (fun e => row_blk_ne u3 M4 (by decide) e.symm)), by rw [VS.out, recs_append]; exact u5, b5⟩
        case measure => simp [intOf]; omega
    · obtain rfl : k = l.length := by omega
      rw [Nat.sub_self, List.replicate_zero, List.append_nil, List.take_length] at o
      rw [List.take_length] at u
      have P := pack_any (c := l.length) 1 o.reads MW.out.2 (by omega) (by omega) (by omega)
      rw [SP.out] at P
      have P := Lib.hid P
      clear hlt o
      go_wp2_with fail
      refine P.out.mono ?_
      rintro e w5 ⟨A5, n5, c5, rfl, o5, b5⟩
      go_wp2
      go_ret2
      have z := b.size
      exact ⟨_, _, _, _, _, _, rfl, o5.base_le z, row_later u b5, below_then b b5 (Nat.le_refl _)⟩

end Go.Proofs.Ytgjllfcnbkennaa
