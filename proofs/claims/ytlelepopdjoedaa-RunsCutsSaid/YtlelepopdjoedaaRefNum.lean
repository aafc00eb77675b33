/- The answer's cursor: numbers, the end; and the cursor's own contracts, told more closely. -/
import Derived.Test.YtlelepopdjoedaaRefCur

namespace Go.Hm
theorem num_step_up (T : List Nat) (k : Nat) (hk : k < T.length) : num (T.drop k) = T.getD k 0 + 256 * num (T.drop (k + 1)) := by
  rw [drop_cons_getD T k 0 hk, num]
theorem num_drop_lt (T : List Nat) (k : Nat) (hT : T.length ≤ 8) (h8 : ∀ x ∈ T, x < 256) : num (T.drop k) < 18446744073709551616 := by
  have h := num_lt (T.drop k) (fun x hx => h8 x (List.mem_of_mem_drop hx))
  have h2 : (256 : Nat) ^ (T.drop k).length ≤ 256 ^ 8 := Nat.pow_le_pow_right (by omega) (by rw [List.length_drop]; omega)
  omega

end Go.Hm

namespace Go.Proofs.Ytlelepopdjoedaa
open Go.RowKit Go.Hm

set_option maxHeartbeats 800000 in
set_option maxRecDepth 100000 in
theorem rnum_good {w : World} {B g : Nat} {l : List Nat} (n : Nat) (h : RCur w B g l false) (hn : n ≤ l.length) (hs : n ≤ 8) :
    Calls Try.prog 34 #[.pointer (some ⟨g, 0, none⟩), .int .i64 (n : Int)] w (RPost (.returned (.int .u64 (num (l.take n) : Int))) B g (l.drop n) false w) := by
  have hlt : (l.take n).length = n := by rw [List.length_take]; omega
  have h8 : ∀ x ∈ l.take n, x < 256 := fun x hx => h.lt8 x (List.mem_of_mem_take hx)
  have N := Lib.hid (rtake_good h hn (by omega))
  unfold RTake at N
  generalize l.take n = T at *
  generalize hD : l.drop n = D at *
  clear hD h hn
  go_enter Try.func34, Try.ntmps34
  go_wp2_with (first
    | (go_at_call 35; refine N.out.mono ?_; rintro e w1 ⟨A', c', rfl, k1, k2, k3⟩
       have k4 := k1.reads))
  clear N
  subst hlt
  go_loop [6, 7] (fun v i => ∃ k : Nat, k ≤ T.length ∧ i = .int .i64 ((k : Int) - 1) ∧ v = .int .u64 (num (T.drop k) : Int)) (fun _ i => (intOf i + 1).toNat)
  case atStart => exact ⟨T.length, by omega, rfl, by simp [num]⟩
  case round =>
    obtain ⟨k, hk, rfl, rfl⟩ := hrel
    by_cases hlt' : 0 < k
    · obtain ⟨j, rfl⟩ : ∃ j, k = j + 1 := ⟨k - 1, by omega⟩
      obtain ⟨ad, rfl, hb, hcell⟩ := k4.num (i := j) (by omega)
      have hst := num_step_up T j (by omega)
      have hlt2 := num_drop_lt T j hs h8
      have S := Lib.hid hst
      have hx := getD_lt T j h8
      rw [hst] at hlt2
      clear hst
      generalize T.getD j 0 = x at *
      generalize num (T.drop (j + 1)) = y at *
      rw [show (((j + 1 : Nat) : Int) - 1) = (j : Int) from by omega]
      go_wp2
      go_round
      case rel => exact ⟨j, by omega, rfl, by rw [S.out]; go_num⟩
      case measure => simp [intOf]
    · obtain rfl : k = 0 := by omega
      go_wp2
      go_ret
      exact ⟨rfl, k2, k3⟩
set_option maxHeartbeats 400000 in
theorem rnum_bad {w : World} {B g : Nat} {l : List Nat} {bad : Bool} {n : Int} (h : RCur w B g l bad) (hn : bad = true ∨ n < 0 ∨ (l.length : Int) < n) (h1 : -9223372036854775808 ≤ n) (h2 : n ≤ 9223372036854775807) :
    Calls Try.prog 34 #[.pointer (some ⟨g, 0, none⟩), .int .i64 n] w (RPost (.returned (.int .u64 0)) B g [] true w) := by
  have N := Lib.hid (rtake_bad h hn h1 h2)
  clear hn h1 h2
  go_enter Try.func34, Try.ntmps34
  go_wp2_with (first
    | (go_at_call 35; refine N.out.mono ?_; rintro e w1 ⟨rfl, k2, k3⟩))
  refine wp_loop_rounds 1 ?_
  rw [rounds_succ]
  go_wp2
  go_ret
  exact ⟨rfl, k2, k3⟩

set_option maxHeartbeats 400000 in
theorem rend_any {w : World} {B g : Nat} {l : List Nat} {bad : Bool} (h : RCur w B g l bad) : Calls Try.prog 31 #[.pointer (some ⟨g, 0, none⟩)] w (BadPost (!bad && l.isEmpty) w) := by
  obtain ⟨A, c, b1, _, _, _, _, _⟩ := h
  have c0 := b1.cell 0
  have c1 := b1.cell 1
  simp at c0 c1
  clear b1
  cases bad
  · cases l with
    | nil =>
      go_enter Try.func31, Try.ntmps31
      go_wp2
      go_ret
      exact ⟨rfl, rfl⟩
    | cons x l =>
      have hl : 0 < (x :: l).length := by simp
      have hi : (!false && (x :: l).isEmpty) = false := rfl
      rw [hi]
      generalize (x :: l).length = n at *
      go_enter Try.func31, Try.ntmps31
      go_wp2
      go_ret
      refine ⟨congrArg (fun b => Ending.returned (.bool b)) ?_, rfl⟩
      simp; omega
  · go_enter Try.func31, Try.ntmps31
    go_wp2
    go_ret
    exact ⟨rfl, rfl⟩

/-- Over, with the bytes' own place told. -/
def OverNew (l : List Nat) (w : World) (e : Ending) (w' : World) : Prop :=
  ∃ g A c, e = .returned (.pointer (some ⟨g, 0, none⟩)) ∧ w.heap.size ≤ g ∧ Blk w' g 60 #[.slice A l.length c, .bool false] ∧ Own w' w.heap.size 5 (.slice A l.length c) (nums .u8 l) ∧ Below w.heap.size w w'
theorem OverNew.cur {w : World} {g : Nat} {l : List Nat} {A : Option Addr} {c base : Nat} (h : Blk w g 60 #[.slice A l.length c, .bool false]) (k : Own w base 5 (.slice A l.length c) (nums .u8 l)) (h8 : ∀ x ∈ l, x < 256) : Cur w g l false := by
  have hc := k.cap
  exact ⟨A, c, h, hc.1, hc.2, TR.of_own k, h8, by simp⟩
set_option maxHeartbeats 400000 in
theorem over_new {w : World} {A : Option Addr} {n c : Nat} {l : List Nat} (h : Reads w w.heap.size 1 A n (nums .u8 l)) (hl : n ≤ 140737488355328) :
    Calls Try.prog 26 #[.slice A n c] w (OverNew l w) := by
  obtain rfl := h.len
  go_enter Try.func26, Try.ntmps26
  go_wp2_with (go_at_call 44; refine (clone_any h hl).mono ?_; rintro e w1 ⟨A', n', c', rfl, k1, k2⟩)
  go_ret
  obtain rfl : n' = l.length := by have := k1.len; rwa [nums_length] at this
  exact ⟨_, A', c', rfl, k2.size, Blk.new _ _ _, k1.alloc _, k2.alloc k2.size _⟩

/-- Take, with the world between told: what is taken is newer than what the cursor stands on. -/
def TakeMid (g : Nat) (l : List Nat) (n : Nat) (w : World) (e : Ending) (w' : World) : Prop :=
  ∃ A c w1, e = .returned (.slice A n c) ∧ Own w' w1.heap.size 5 (.slice A n c) (nums .u8 (l.take n)) ∧ Cur w1 g (l.drop n) false ∧ w.grownBy w1 (some g) ∧ Below w1.heap.size w1 w'
set_option maxHeartbeats 400000 in
theorem take_mid {w : World} {g : Nat} {l : List Nat} {n : Nat} (h : Cur w g l false) (hn : n ≤ l.length) (hs : n ≤ 140737488355328) :
    Calls Try.prog 48 #[.pointer (some ⟨g, 0, none⟩), .int .i64 (n : Int)] w (TakeMid g l n w) := by
  have hlt : (l.take n).length = n := by rw [List.length_take]; omega
  go_enter Try.func48, Try.ntmps48
  go_wp2_with (first
    | (go_at_call 55; refine (next_good h hn).mono ?_; rintro e w1 ⟨A', c', rfl, k1, k2, k3⟩
       have k4 := k1.1
       have C := Lib.hid (clone_any (c := c') k4 hs))
    | (go_at_call 44; refine C.out.mono ?_; rintro e w2 ⟨A2, n2, c2, rfl, k5, k6⟩))
  go_ret
  obtain rfl : n2 = n := by have := k5.len; rwa [nums_length, hlt] at this
  exact ⟨A2, c2, w1, rfl, k5, k2, k3, k6⟩

end Go.Proofs.Ytlelepopdjoedaa
