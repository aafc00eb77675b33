/- What the walk's operations on bits come to, as numbers. No program is named here. -/
import Derived.Test.YtlelepopdjoedaaMem
import Derived.Test.YtlelepopdjoedaaSpec

namespace Go.Hm
open Go

theorem or_shl (x y k : Nat) (hy : y < 2 ^ k) : (x * 2 ^ k) ||| y = x * 2 ^ k + y := by
  rw [Nat.mul_comm, ← Nat.two_pow_add_eq_or_of_lt hy]
theorem or_add (x y k : Nat) (hy : y < 2 ^ k) (hx : x % 2 ^ k = 0) : x ||| y = x + y := nat_join k x y hx hy
theorem or128 (x : Nat) : bits .or .u8 ((x : Int) % 256) 128 = ((x % 128 + 128 : Nat) : Int) := by
  have h := u8_or_nat (x % 256) 128 (by omega) (by omega)
  rw [show ((x : Int) % 256) = ((x % 256 : Nat) : Int) from by omega, show (128 : Int) = ((128 : Nat) : Int) from rfl, h]
  congr 1
  by_cases hx : x % 256 < 128
  · rw [Nat.or_comm, or_add 128 (x % 256) 7 hx rfl]; omega
  · have e : x % 256 = 128 + x % 128 := by omega
    rw [e, Nat.or_comm, ← or_add 128 (x % 128) 7 (by omega) rfl, ← Nat.or_assoc, Nat.or_self, or_add 128 (x % 128) 7 (by omega) rfl]; omega

theorem num_take_lt (T : List Nat) (k : Nat) (hk : k ≤ T.length) (h8 : ∀ x ∈ T, x < 256) : num (T.take k) < 2 ^ (8 * k) := by
  have h := num_lt (T.take k) (fun x hx => h8 x (List.mem_of_mem_take hx))
  rw [List.length_take, Nat.min_eq_left hk, show (256 : Nat) = 2 ^ 8 from rfl, ← Nat.pow_mul] at h
  exact h
theorem getD_lt (T : List Nat) (k : Nat) (h8 : ∀ x ∈ T, x < 256) : T.getD k 0 < 256 := by
  by_cases hk : k < T.length
  · rw [List.getD_eq_getElem?_getD, List.getElem?_eq_getElem hk]
    exact h8 _ (List.getElem_mem hk)
  · rw [List.getD_eq_getElem?_getD, List.getElem?_eq_none (by omega)]
    simp
theorem num_step (T : List Nat) (k : Nat) (hk : k < T.length) (h8 : ∀ x ∈ T, x < 256) : num (T.take k) ||| (T.getD k 0 * 2 ^ (8 * k)) = num (T.take (k + 1)) := by
  rw [take_snoc T k 0 hk, num_snoc, List.length_take, Nat.min_eq_left (by omega), Nat.or_comm, or_shl _ _ _ (num_take_lt T k (by omega) h8), show (256 : Nat) = 2 ^ 8 from rfl, ← Nat.pow_mul, Nat.add_comm]
theorem mul_two_pow_lt {x k m : Nat} (hx : x < 256) (hk : 8 * (k + 1) ≤ m) : x * 2 ^ (8 * k) < 2 ^ m := by
  have h1 : x * 2 ^ (8 * k) < 256 * 2 ^ (8 * k) := Nat.mul_lt_mul_of_pos_right hx (Nat.two_pow_pos _)
  have h2 : 256 * 2 ^ (8 * k) = 2 ^ (8 * (k + 1)) := by rw [Nat.mul_add, Nat.pow_add, Nat.mul_comm]
  have h3 : 2 ^ (8 * (k + 1)) ≤ 2 ^ m := Nat.pow_le_pow_right (by omega) hk
  omega
theorem num_step_u8 (T : List Nat) (k : Nat) (hk : k < T.length) (hT : T.length ≤ 1) (h8 : ∀ x ∈ T, x < 256) :
    bits .or .u8 ((num (T.take k) : Nat) : Int) (((T.getD k 0 : Nat) : Int) * 2 ^ (8 * k) % 256) = ((num (T.take (k + 1)) : Nat) : Int) := by
  have hx := getD_lt T k h8
  have hm := mul_two_pow_lt (m := 8) hx (show 8 * (k + 1) ≤ 8 by omega)
  have hn := num_take_lt T k (by omega) h8
  have hn2 : 2 ^ (8 * k) ≤ 2 ^ 8 := Nat.pow_le_pow_right (by omega) (by omega)
  have e1 : (((T.getD k 0 : Nat) : Int) * 2 ^ (8 * k) % 256) = ((T.getD k 0 * 2 ^ (8 * k) : Nat) : Int) := by
    have e2 : ((T.getD k 0 * 2 ^ (8 * k) : Nat) : Int) = ((T.getD k 0 : Nat) : Int) * 2 ^ (8 * k) := by simp
    have e3 : ((T.getD k 0 * 2 ^ (8 * k) : Nat) : Int) < 256 := by
      have : T.getD k 0 * 2 ^ (8 * k) < 256 := hm
      omega
    rw [e2] at e3 ⊢
    skip
    exact Int.emod_eq_of_lt (by rw [← e2]; omega) e3
  rw [e1, u8_or_nat _ _ (Nat.lt_of_lt_of_le hn hn2) hm, num_step T k hk h8]
theorem num_step_u32 (T : List Nat) (k : Nat) (hk : k < T.length) (hT : T.length ≤ 4) (h8 : ∀ x ∈ T, x < 256) :
    bits .or .u32 ((num (T.take k) : Nat) : Int) (((T.getD k 0 : Nat) : Int) % 4294967296 * 2 ^ (8 * k) % 4294967296) = ((num (T.take (k + 1)) : Nat) : Int) := by
  have hx := getD_lt T k h8
  have hm := mul_two_pow_lt (m := 32) hx (show 8 * (k + 1) ≤ 32 by omega)
  have hn := num_take_lt T k (by omega) h8
  have hn2 : 2 ^ (8 * k) ≤ 2 ^ 32 := Nat.pow_le_pow_right (by omega) (by omega)
  have e1 : (((T.getD k 0 : Nat) : Int) % 4294967296 * 2 ^ (8 * k) % 4294967296) = ((T.getD k 0 * 2 ^ (8 * k) : Nat) : Int) := by
    have e2 : ((T.getD k 0 * 2 ^ (8 * k) : Nat) : Int) = ((T.getD k 0 : Nat) : Int) * 2 ^ (8 * k) := by simp
    have e3 : ((T.getD k 0 * 2 ^ (8 * k) : Nat) : Int) < 4294967296 := by
      have : T.getD k 0 * 2 ^ (8 * k) < 4294967296 := hm
      omega
    rw [e2] at e3 ⊢
    rw [Int.emod_eq_of_lt (a := ((T.getD k 0 : Nat) : Int)) (by omega) (by omega)]
    exact Int.emod_eq_of_lt (by rw [← e2]; omega) e3
  rw [e1, u32_or_nat _ _ (Nat.lt_of_lt_of_le hn hn2) hm, num_step T k hk h8]
theorem num_step_u64 (T : List Nat) (k : Nat) (hk : k < T.length) (hT : T.length ≤ 8) (h8 : ∀ x ∈ T, x < 256) :
    bits .or .u64 ((num (T.take k) : Nat) : Int) (IntKind.u64.wrap (IntKind.u64.wrap ((T.getD k 0 : Nat) : Int) * 2 ^ (8 * k))) = ((num (T.take (k + 1)) : Nat) : Int) := by
  rw [IntKind.wrap_u64, IntKind.wrap_u64]
  have hx := getD_lt T k h8
  have hm := mul_two_pow_lt (m := 64) hx (show 8 * (k + 1) ≤ 64 by omega)
  have hn := num_take_lt T k (by omega) h8
  have hn2 : 2 ^ (8 * k) ≤ 2 ^ 64 := Nat.pow_le_pow_right (by omega) (by omega)
  have e1 : (((T.getD k 0 : Nat) : Int) % 18446744073709551616 * 2 ^ (8 * k) % 18446744073709551616) = ((T.getD k 0 * 2 ^ (8 * k) : Nat) : Int) := by
    have e2 : ((T.getD k 0 * 2 ^ (8 * k) : Nat) : Int) = ((T.getD k 0 : Nat) : Int) * 2 ^ (8 * k) := by simp
    have e3 : ((T.getD k 0 * 2 ^ (8 * k) : Nat) : Int) < 18446744073709551616 := by
      have : T.getD k 0 * 2 ^ (8 * k) < 18446744073709551616 := hm
      omega
    rw [e2] at e3 ⊢
    rw [Int.emod_eq_of_lt (a := ((T.getD k 0 : Nat) : Int)) (by omega) (by omega)]
    exact Int.emod_eq_of_lt (by rw [← e2]; omega) e3
  rw [e1, u64_or_nat _ _ (Nat.lt_of_lt_of_le hn hn2) hm, num_step T k hk h8]
theorem byte_at (x k : Nat) : ((x : Int) / 2 ^ (8 * k) % 256) = ((x / 256 ^ k % 256 : Nat) : Int) := by
  rw [show (256 : Nat) ^ k = 2 ^ (8 * k) by rw [show (256 : Nat) = 2 ^ 8 from rfl, ← Nat.pow_mul]]
  simp

end Go.Hm
