/- Plain functions on lists of numbers that the contracts speak of, and what holds of them. No program is named here. -/

namespace Go.Hm

/-- The bytes of a number, seven bits each, the lowest first. -/
def vp (n : Nat) : List Nat := if _h : n < 128 then [n] else (n % 128 + 128) :: vp (n / 128)
theorem vp_lt {n : Nat} (h : n < 128) : vp n = [n] := by rw [vp, dif_pos h]
theorem vp_ge {n : Nat} (h : ¬ n < 128) : vp n = (n % 128 + 128) :: vp (n / 128) := by rw [vp, dif_neg h]
theorem vp_len (k : Nat) : ∀ n, n < 128 ^ (k + 1) → (vp n).length ≤ k + 1 := by
  induction k with
  | zero => intro n h; rw [vp_lt (by omega)]; simp
  | succ k ih =>
    intro n h
    by_cases hn : n < 128
    · rw [vp_lt hn]; simp
    · rw [vp_ge hn]
      have := ih (n / 128) (Nat.div_lt_of_lt_mul (by rw [Nat.pow_succ] at h; omega))
      simp; omega
theorem vp_len10 {n : Nat} (h : n < 18446744073709551616) : (vp n).length ≤ 10 := vp_len 9 n (by omega)
theorem vp_pos (n : Nat) : 0 < (vp n).length := by
  by_cases hn : n < 128
  · rw [vp_lt hn]; simp
  · rw [vp_ge hn]; simp

/-- So many bytes of a number, the lowest first. -/
def low (n : Nat) : Nat → List Nat
  | 0 => []
  | k + 1 => low n k ++ [n / 256 ^ k % 256]
theorem low_len (n k : Nat) : (low n k).length = k := by induction k <;> simp_all [low]

/-- The number of bytes, the lowest first. -/
def num : List Nat → Nat
  | [] => 0
  | b :: l => b + 256 * num l
theorem num_snoc (l : List Nat) (b : Nat) : num (l ++ [b]) = num l + b * 256 ^ l.length := by
  induction l with
  | nil => simp [num]
  | cons a l ih => simp only [List.cons_append, num, ih, List.length_cons, Nat.pow_succ]; rw [Nat.mul_add, Nat.add_assoc]; congr 2; rw [Nat.mul_left_comm, Nat.mul_comm 256]
theorem num_lt (l : List Nat) (h : ∀ x ∈ l, x < 256) : num l < 256 ^ l.length := by
  induction l with
  | nil => simp [num]
  | cons a l ih =>
    have h1 := ih fun x hx => h x (by simp [hx])
    have h2 := h a (by simp)
    simp only [num, List.length_cons, Nat.pow_succ]
    omega
theorem take_snoc {α : Type} (l : List α) (k : Nat) (d : α) (h : k < l.length) : l.take (k + 1) = l.take k ++ [l.getD k d] := by
  rw [List.take_add_one, List.getElem?_eq_getElem h]
  simp [h]
theorem num_low (n k : Nat) : num (low n k) = n % 256 ^ k := by
  induction k with
  | zero => simp [low, num, Nat.mod_one]
  | succ k ih =>
    rw [low, num_snoc, ih, low_len, Nat.pow_succ, Nat.mod_mul, Nat.mul_comm (256 ^ k)]
theorem low_lt (n k : Nat) : ∀ x ∈ low n k, x < 256 := by
  induction k with
  | zero => intro x hx; simp [low] at hx
  | succ k ih =>
    intro x hx
    simp only [low, List.mem_append, List.mem_singleton] at hx
    rcases hx with hx | hx
    · exact ih x hx
    · subst hx; exact Nat.mod_lt _ (by omega)

/-- Numbers of eight bytes, one behind the other. -/
def cat8 (l : List Nat) : List Nat := l.flatMap fun x => low x 8
theorem cat8_nil : cat8 [] = [] := rfl
theorem cat8_cons (x : Nat) (l : List Nat) : cat8 (x :: l) = low x 8 ++ cat8 l := rfl
theorem cat8_append (l m : List Nat) : cat8 (l ++ m) = cat8 l ++ cat8 m := by simp [cat8]
theorem cat8_len (l : List Nat) : (cat8 l).length = 8 * l.length := by
  induction l with
  | nil => rfl
  | cons x l ih => rw [cat8_cons, List.length_append, low_len, ih, List.length_cons]; omega
theorem cat8_lt (l : List Nat) : ∀ x ∈ cat8 l, x < 256 := by
  intro x hx
  simp only [cat8, List.mem_flatMap] at hx
  obtain ⟨y, _, hy⟩ := hx
  exact low_lt y 8 x hy
theorem drop_cons_getD {α : Type} (l : List α) (k : Nat) (d : α) (h : k < l.length) : l.drop k = l.getD k d :: l.drop (k + 1) := by
  rw [List.drop_eq_getElem_cons h]; simp [h]
theorem num_low_of_lt {n k : Nat} (h : n < 256 ^ k) : num (low n k) = n := by rw [num_low, Nat.mod_eq_of_lt h]

end Go.Hm
