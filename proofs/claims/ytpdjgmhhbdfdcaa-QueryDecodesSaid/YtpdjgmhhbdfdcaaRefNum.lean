/- The answer's cursor: numbers, the end; and the cursor's own contracts, told more closely. -/
import Derived.Test.YtpdjgmhhbdfdcaaRefCur

namespace Go.Hm
theorem num_step_up (T : List Nat) (k : Nat) (hk : k < T.length) : num (T.drop k) = T.getD k 0 + 256 * num (T.drop (k + 1)) := by
  rw [drop_cons_getD T k 0 hk, num]
theorem num_drop_lt (T : List Nat) (k : Nat) (hT : T.length ≤ 8) (h8 : ∀ x ∈ T, x < 256) : num (T.drop k) < 18446744073709551616 := by
  have h := num_lt (T.drop k) (fun x hx => h8 x (List.mem_of_mem_drop hx))
  have h2 : (256 : Nat) ^ (T.drop k).length ≤ 256 ^ 8 := Nat.pow_le_pow_right (by omega) (by rw [List.length_drop]; omega)
  omega

end Go.Hm

namespace Go.Proofs.Ytpdjgmhhbdfdcaa
open Go.RowKit Go.Hm


set_option maxHeartbeats 400000 in
theorem rend_any {w : World} {B g : Nat} {l : List Nat} {bad : Bool} (h : RCur w B g l bad) : Calls Try.prog 29 #[.pointer (some ⟨g, 0, none⟩)] w (BadPost (!bad && l.isEmpty) w) := by
  obtain ⟨A, c, b1, _, _, _, _, _⟩ := h
  have c0 := b1.cell 0
  have c1 := b1.cell 1
  simp at c0 c1
  clear b1
  cases bad
  · cases l with
    | nil =>
      go_enter Try.func29, Try.ntmps29
      go_wp2
      go_ret
      exact ⟨rfl, rfl⟩
    | cons x l =>
      have hl : 0 < (x :: l).length := by simp
      have hi : (!false && (x :: l).isEmpty) = false := rfl
      rw [hi]
      generalize (x :: l).length = n at *
      go_enter Try.func29, Try.ntmps29
      go_wp2
      go_ret
      refine ⟨congrArg (fun b => Ending.returned (.bool b)) ?_, rfl⟩
      simp; omega
  · go_enter Try.func29, Try.ntmps29
    go_wp2
    go_ret
    exact ⟨rfl, rfl⟩

/-- Over, with the bytes' own place told. -/
def OverNew (l : List Nat) (w : World) (e : Ending) (w' : World) : Prop :=
  ∃ g A c, e = .returned (.pointer (some ⟨g, 0, none⟩)) ∧ w.heap.size ≤ g ∧ Blk w' g 77 #[.slice A l.length c, .bool false] ∧ Own w' w.heap.size 5 (.slice A l.length c) (nums .u8 l) ∧ Below w.heap.size w w'
theorem OverNew.cur {w : World} {g : Nat} {l : List Nat} {A : Option Addr} {c base : Nat} (h : Blk w g 77 #[.slice A l.length c, .bool false]) (k : Own w base 5 (.slice A l.length c) (nums .u8 l)) (h8 : ∀ x ∈ l, x < 256) : Cur w g l false := by
  have hc := k.cap
  exact ⟨A, c, h, hc.1, hc.2, TR.of_own k, h8, by simp⟩
set_option maxHeartbeats 400000 in
theorem over_new {w : World} {A : Option Addr} {n c : Nat} {l : List Nat} (h : Reads w w.heap.size 1 A n (nums .u8 l)) (hl : n ≤ 140737488355328) :
    Calls Try.prog 25 #[.slice A n c] w (OverNew l w) := by
  obtain rfl := h.len
  go_enter Try.func25, Try.ntmps25
  go_wp2_with (go_at_call 37; refine (clone_any h hl).mono ?_; rintro e w1 ⟨A', n', c', rfl, k1, k2⟩)
  go_ret
  obtain rfl : n' = l.length := by have := k1.len; rwa [nums_length] at this
  exact ⟨_, A', c', rfl, k2.size, Blk.new _ _ _, k1.alloc _, k2.alloc k2.size _⟩

end Go.Proofs.Ytpdjgmhhbdfdcaa
