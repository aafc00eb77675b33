/- Contracts of package cursor: numbers. -/
import Derived.Test.YtlelepopdjoedaaCur
import Derived.Test.YtlelepopdjoedaaLays

namespace Go.Proofs.Ytlelepopdjoedaa
open Go.RowKit Go.Hm

set_option maxHeartbeats 400000 in
theorem num_u8_good {w : World} {g : Nat} {l : List Nat} (n : Nat) (h : Cur w g l false) (hn : n ≤ l.length) (hs : n ≤ 1) :
    Calls Try.prog 54 #[.pointer (some ⟨g, 0, none⟩), .int .i64 (n : Int)] w (CurPost (.returned (.int .u8 (num (l.take n) : Int))) g (l.drop n) false w) := by
  have hlt : (l.take n).length = n := by rw [List.length_take]; omega
  have N := Lib.hid (next_good h hn)
  have h8 : ∀ x ∈ l.take n, x < 256 := by
    obtain ⟨A, c, _, _, _, _, h5, _⟩ := h
    exact fun x hx => h5 x (List.mem_of_mem_take hx)
  unfold NextPost at N
  generalize l.take n = T at *
  generalize hD : l.drop n = D at *
  clear hD h hn
  go_enter Try.func54, Try.ntmps54
  go_wp2_with (first
    | (go_at_call 55; refine N.out.mono ?_; rintro e w1 ⟨A', c', rfl, k1, k2, k3⟩
       have k4 := k1.1))
  clear N
  subst hlt
  go_loop [5, 12] (fun v i => ∃ k : Nat, k ≤ T.length ∧ i = .int .i64 (k : Int) ∧ v = .int .u8 (num (T.take k) : Int)) (fun _ i => T.length - (intOf i).toNat)
  case atStart => exact ⟨0, by omega, rfl, by simp [num]⟩
  case round =>
    obtain ⟨k, hk, rfl, rfl⟩ := hrel
    by_cases hlt' : k < T.length
    · obtain ⟨ad, rfl, hb, hcell⟩ := k4.num hlt'
      have S := Lib.hid (num_step_u8 T k hlt' hs h8)
      generalize T.getD k 0 = x at *
      go_wp2
      go_round
      case rel => exact ⟨k + 1, by omega, by go_num, by rw [S.out]⟩
      case measure => simp [intOf]; omega
    · obtain rfl : k = T.length := by omega
      go_wp2
      go_ret
      exact ⟨rfl, k2, k3⟩

set_option maxHeartbeats 400000 in
theorem num_u8_bad {w : World} {g : Nat} {l : List Nat} {bad : Bool} {n : Int} (h : Cur w g l bad) (hn : bad = true ∨ n < 0 ∨ (l.length : Int) < n) (h1 : -9223372036854775808 ≤ n) (h2 : n ≤ 9223372036854775807) :
    Calls Try.prog 54 #[.pointer (some ⟨g, 0, none⟩), .int .i64 n] w (CurPost (.returned (.int .u8 0)) g [] true w) := by
  have HN := Lib.hid (next_bad h hn h1 h2)
  clear hn h1 h2 h
  go_enter Try.func54, Try.ntmps54
  go_wp2_with (first
    | (go_at_call 55; refine HN.out.mono ?_; rintro e w1 ⟨rfl, k1, k2⟩))
  refine wp_loop_rounds 1 ?_
  rw [rounds_succ]
  go_wp2
  go_ret
  exact ⟨rfl, k1, k2⟩

set_option maxHeartbeats 400000 in
theorem byte_good {w : World} {g : Nat} {l : List Nat} (h : Cur w g l false) (hn : 1 ≤ l.length) :
    Calls Try.prog 46 #[.pointer (some ⟨g, 0, none⟩)] w (CurPost (.returned (.int .u8 (num (l.take 1) : Int))) g (l.drop 1) false w) := by
  have N := Lib.hid (num_u8_good 1 h hn (by omega))
  go_enter Try.func46, Try.ntmps46
  go_wp2_with (go_at_call 54; refine N.out.mono ?_; rintro e w1 ⟨rfl, k1, k2⟩)
  go_ret
  exact ⟨rfl, k1, k2⟩

set_option maxHeartbeats 400000 in
theorem byte_bad {w : World} {g : Nat} {l : List Nat} {bad : Bool} (h : Cur w g l bad) (hn : bad = true ∨ l.length < 1) :
    Calls Try.prog 46 #[.pointer (some ⟨g, 0, none⟩)] w (CurPost (.returned (.int .u8 0)) g [] true w) := by
  have N := Lib.hid (num_u8_bad (n := 1) h (by rcases hn with hn | hn; exact .inl hn; exact .inr (.inr (by omega))) (by omega) (by omega))
  clear hn
  go_enter Try.func46, Try.ntmps46
  go_wp2_with (go_at_call 54; refine N.out.mono ?_; rintro e w1 ⟨rfl, k1, k2⟩)
  go_ret
  exact ⟨rfl, k1, k2⟩



def TakeApp (g : Nat) (a b : List Nat) (w : World) (e : Ending) (w' : World) : Prop :=
  ∃ A c, e = .returned (.slice A a.length c) ∧ Own w' w.heap.size 5 (.slice A a.length c) (nums .u8 a) ∧ Cur w' g b false ∧ w.grownBy w' (some g)
theorem take_app {w : World} {g : Nat} {a b : List Nat} (h : Cur w g (a ++ b) false) (hs : a.length ≤ 140737488355328) :
    Calls Try.prog 48 #[.pointer (some ⟨g, 0, none⟩), .int .i64 (a.length : Int)] w (TakeApp g a b w) :=
  (take_good h (by rw [List.length_append]; omega) hs).mono fun e w' ⟨A, c, h1, h2, h3, h4⟩ => ⟨A, c, h1, by rwa [List.take_left] at h2, by rwa [List.drop_left] at h3, h4⟩
theorem byte_app {w : World} {g x : Nat} {b : List Nat} (h : Cur w g (x :: b) false) :
    Calls Try.prog 46 #[.pointer (some ⟨g, 0, none⟩)] w (CurPost (.returned (.int .u8 (x : Int))) g b false w) := by
  have := byte_good h (by simp)
  simpa [num] using this

end Go.Proofs.Ytlelepopdjoedaa
