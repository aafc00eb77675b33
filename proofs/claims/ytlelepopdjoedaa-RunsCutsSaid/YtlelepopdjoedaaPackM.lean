/- Numbers packed into bytes, as plain lists. No program is named here. -/
import Derived.Test.YtlelepopdjoedaaSpec

namespace Go.Hm

/-- Numbers of w bits, one behind the other, as one number. -/
def pk (w : Nat) : List Nat → Nat
  | [] => 0
  | x :: l => x + 2 ^ w * pk w l
theorem pk_snoc (w : Nat) (l : List Nat) (x : Nat) : pk w (l ++ [x]) = pk w l + 2 ^ (w * l.length) * x := by
  induction l with
  | nil => simp [pk]
  | cons a l ih =>
    simp only [List.cons_append, pk, ih, List.length_cons]
    rw [Nat.mul_add, Nat.mul_succ, Nat.pow_add]
    simp only [Nat.mul_comm, Nat.mul_left_comm, Nat.add_assoc]
theorem pk_lt (w : Nat) (l : List Nat) (h : ∀ x ∈ l, x < 2 ^ w) : pk w l < 2 ^ (w * l.length) := by
  induction l with
  | nil => simp [pk]
  | cons a l ih =>
    have h1 := ih fun x hx => h x (by simp [hx])
    have h2 := h a (by simp)
    simp only [pk, List.length_cons]
    rw [Nat.mul_succ, Nat.pow_add, Nat.mul_comm (2 ^ (w * l.length))]
    have : 2 ^ w * (pk w l + 1) ≤ 2 ^ w * 2 ^ (w * l.length) := Nat.mul_le_mul_left _ h1
    rw [Nat.mul_add] at this
    omega
/-- The numbers of w bits that a number is made of. -/
def unpk (w : Nat) : Nat → Nat → List Nat
  | 0, _ => []
  | n + 1, B => unpk w n B ++ [B / 2 ^ (w * n) % 2 ^ w]
theorem unpk_len (w n B : Nat) : (unpk w n B).length = n := by induction n <;> simp_all [unpk]
theorem unpk_lt (w n B : Nat) : ∀ x ∈ unpk w n B, x < 2 ^ w := by
  induction n with
  | zero => intro x hx; simp [unpk] at hx
  | succ n ih =>
    intro x hx
    simp only [unpk, List.mem_append, List.mem_singleton] at hx
    rcases hx with hx | hx
    · exact ih x hx
    · subst hx; exact Nat.mod_lt _ (Nat.two_pow_pos w)
theorem unpk_getD (w n B i : Nat) (h : i < n) : (unpk w n B).getD i 0 = B / 2 ^ (w * i) % 2 ^ w := by
  induction n with
  | zero => omega
  | succ n ih =>
    rw [unpk, List.getD_eq_getElem?_getD]
    by_cases hi : i < n
    · rw [List.getElem?_append_left (by rw [unpk_len]; exact hi), ← List.getD_eq_getElem?_getD, ih hi]
    · obtain rfl : i = n := by omega
      rw [List.getElem?_append_right (by rw [unpk_len]; exact Nat.le_refl _), unpk_len]
      simp
theorem pk_unpk (w n B : Nat) : pk w (unpk w n B) = B % 2 ^ (w * n) := by
  induction n with
  | zero => simp [unpk, pk, Nat.mod_one]
  | succ n ih => rw [unpk, pk_snoc, ih, unpk_len, Nat.mul_succ, Nat.pow_add, Nat.mod_mul]
theorem unpk_pk (w : Nat) (l : List Nat) (h : ∀ x ∈ l, x < 2 ^ w) (B : Nat) (hB : B % 2 ^ (w * l.length) = pk w l) : unpk w l.length B = l := by
  have key : ∀ (m : List Nat), (∀ x ∈ m, x < 2 ^ w) → ∀ i, i < m.length → pk w m / 2 ^ (w * i) % 2 ^ w = m.getD i 0 := by
    intro m
    induction m with
    | nil => intro _ i hi; simp at hi
    | cons a m ih =>
      intro hm i hi
      have ha := hm a (by simp)
      cases i with
      | zero => simp [pk, Nat.add_mul_mod_self_left, Nat.mod_eq_of_lt ha]
      | succ i =>
        rw [pk, Nat.mul_succ, Nat.add_comm (w * i), Nat.pow_add, ← Nat.div_div_eq_div_mul, Nat.add_mul_div_left _ _ (Nat.two_pow_pos w), Nat.div_eq_of_lt ha, Nat.zero_add, ih (fun x hx => hm x (by simp [hx])) i (by simpa using hi)]
        simp
  refine List.ext_getElem (unpk_len _ _ _) fun i h1 h2 => ?_
  have e1 : (unpk w l.length B).getD i 0 = (unpk w l.length B)[i] := by rw [List.getD_eq_getElem?_getD, List.getElem?_eq_getElem h1]; rfl
  have e2 : l.getD i 0 = l[i] := by rw [List.getD_eq_getElem?_getD, List.getElem?_eq_getElem h2]; rfl
  rw [← e1, ← e2, unpk_getD w l.length B i h2, ← key l h i h2, ← hB]
  have hs : w * l.length = w * i + (w + w * (l.length - i - 1)) := by
    have e : l.length = i + (1 + (l.length - i - 1)) := by omega
    conv => lhs; rw [e]
    rw [Nat.mul_add, Nat.mul_add, Nat.mul_one]
  rw [hs, Nat.pow_add, Nat.mod_mul_right_div_self, Nat.pow_add, Nat.mod_mul_right_mod]

/-- A list that is as long and has the same numbers. -/
theorem low_getD (X s i : Nat) (h : i < s) : (low X s).getD i 0 = X / 256 ^ i % 256 := by
  induction s with
  | zero => omega
  | succ s ih =>
    rw [low, List.getD_eq_getElem?_getD]
    by_cases hi : i < s
    · rw [List.getElem?_append_left (by rw [low_len]; exact hi), ← List.getD_eq_getElem?_getD, ih hi]
    · obtain rfl : i = s := by omega
      rw [List.getElem?_append_right (by rw [low_len]; exact Nat.le_refl _), low_len]
      simp
theorem low_num (b : List Nat) (h : ∀ x ∈ b, x < 256) : low (num b) b.length = b := by
  have key : ∀ (m : List Nat), (∀ x ∈ m, x < 256) → ∀ i, i < m.length → num m / 256 ^ i % 256 = m.getD i 0 := by
    intro m
    induction m with
    | nil => intro _ i hi; simp at hi
    | cons a m ih =>
      intro hm i hi
      have ha := hm a (by simp)
      cases i with
      | zero => simp [num]; omega
      | succ i =>
        rw [num, Nat.pow_succ, Nat.mul_comm (256 ^ i), ← Nat.div_div_eq_div_mul, show (a + 256 * num m) / 256 = num m by omega, ih (fun x hx => hm x (by simp [hx])) i (by simpa using hi)]
        simp
  refine List.ext_getElem (low_len _ _) fun i h1 h2 => ?_
  have e1 : (low (num b) b.length).getD i 0 = (low (num b) b.length)[i] := by rw [List.getD_eq_getElem?_getD, List.getElem?_eq_getElem h1]; rfl
  have e2 : b.getD i 0 = b[i] := by rw [List.getD_eq_getElem?_getD, List.getElem?_eq_getElem h2]; rfl
  rw [← e1, ← e2, low_getD _ _ _ h2, key b h i h2]
theorem num_byte (b : List Nat) (h : ∀ x ∈ b, x < 256) (i : Nat) (hi : i < b.length) : b.getD i 0 = num b / 256 ^ i % 256 := by
  have := low_getD (num b) b.length i hi
  rwa [low_num b h] at this
theorem low_zero (s : Nat) : low 0 s = List.replicate s 0 := by
  induction s with
  | zero => rfl
  | succ s ih => rw [low, ih, List.replicate_succ']; simp
theorem p256 (k : Nat) : (256 : Nat) ^ k = 2 ^ (8 * k) := by rw [show (256 : Nat) = 2 ^ 8 from rfl, ← Nat.pow_mul]

/-- One more bit, above all that there are. -/
theorem low_set (X s a c : Nat) (ha : a < 8 * s) (hX : X < 2 ^ a) (hc : c ≤ 1) :
    (low X s).set (a / 8) ((low X s).getD (a / 8) 0 + c * 2 ^ (a % 8)) = low (X + c * 2 ^ a) s ∧ (low X s).getD (a / 8) 0 < 2 ^ (a % 8) ∧ (low X s).getD (a / 8) 0 + c * 2 ^ (a % 8) < 256 := by
  have hq : a / 8 < s := by omega
  have ea : 2 ^ a = 256 ^ (a / 8) * 2 ^ (a % 8) := by rw [p256, ← Nat.pow_add]; congr 1; omega
  have hr : 2 ^ (a % 8) ≤ 2 ^ 7 := Nat.pow_le_pow_right (by omega) (by omega)
  have h0 : X / 256 ^ (a / 8) < 2 ^ (a % 8) := by
    apply Nat.div_lt_of_lt_mul
    rw [← ea]; exact hX
  have hb : (low X s).getD (a / 8) 0 = X / 256 ^ (a / 8) := by
    rw [low_getD _ _ _ hq]; exact Nat.mod_eq_of_lt (by omega)
  have hcc : c * 2 ^ (a % 8) ≤ 2 ^ (a % 8) := by
    calc c * 2 ^ (a % 8) ≤ 1 * 2 ^ (a % 8) := Nat.mul_le_mul_right _ hc
      _ = _ := Nat.one_mul _
  have hlt : X / 256 ^ (a / 8) + c * 2 ^ (a % 8) < 256 := by omega
  refine ⟨?_, by rw [hb]; exact h0, by rw [hb]; exact hlt⟩
  refine List.ext_getElem (by simp [low_len]) fun i h1 h2 => ?_
  have h2' : i < s := by rwa [low_len] at h2
  have h1' : i < (low X s).length := by rwa [low_len]
  have e2 : (low (X + c * 2 ^ a) s)[i] = (X + c * 2 ^ a) / 256 ^ i % 256 := by
    rw [← low_getD _ _ _ h2', List.getD_eq_getElem?_getD, List.getElem?_eq_getElem h2]; rfl
  have e1 : (low X s)[i]'h1' = X / 256 ^ i % 256 := by
    rw [← low_getD _ _ _ h2', List.getD_eq_getElem?_getD, List.getElem?_eq_getElem h1']; rfl
  rw [e2, List.getElem_set]
  by_cases hi : a / 8 = i
  · subst hi
    rw [if_pos rfl, hb, ea, show c * (256 ^ (a / 8) * 2 ^ (a % 8)) = 256 ^ (a / 8) * (c * 2 ^ (a % 8)) from Nat.mul_left_comm _ _ _, Nat.add_mul_div_left _ _ (Nat.pow_pos (by omega)), Nat.mod_eq_of_lt hlt]
  · rw [if_neg hi, e1]
    rcases Nat.lt_or_gt_of_ne hi with hlt' | hgt
    · have hp : 2 ^ (a + 1) ≤ 256 ^ i := by rw [p256]; exact Nat.pow_le_pow_right (by omega) (by omega)
      have hca : c * 2 ^ a ≤ 2 ^ a := by
        calc c * 2 ^ a ≤ 1 * 2 ^ a := Nat.mul_le_mul_right _ hc
          _ = _ := Nat.one_mul _
      rw [Nat.pow_succ] at hp
      rw [Nat.div_eq_of_lt (by omega), Nat.div_eq_of_lt (by omega)]
    · have es : 2 ^ a = 256 ^ i * (256 * 2 ^ (a - 8 * (i + 1))) := by
        rw [p256, show (256 : Nat) = 2 ^ 8 from rfl, ← Nat.pow_add, ← Nat.pow_add]; congr 1; omega
      rw [es, show c * (256 ^ i * (256 * 2 ^ (a - 8 * (i + 1)))) = 256 ^ i * (256 * (c * 2 ^ (a - 8 * (i + 1)))) by simp only [Nat.mul_left_comm], Nat.add_mul_div_left _ _ (Nat.pow_pos (by omega)), Nat.add_mul_mod_self_left]
theorem mod_succ_pow (y j : Nat) : y % 2 ^ (j + 1) = y % 2 ^ j + 2 ^ j * (y / 2 ^ j % 2) := by rw [Nat.pow_succ, Nat.mod_mul]
theorem part_lt {X m : Nat} (y j : Nat) (hX : X < 2 ^ m) : X + y % 2 ^ j * 2 ^ m < 2 ^ (m + j) := by
  have h1 : y % 2 ^ j < 2 ^ j := Nat.mod_lt _ (Nat.two_pow_pos _)
  have h2 : (y % 2 ^ j + 1) * 2 ^ m ≤ 2 ^ j * 2 ^ m := Nat.mul_le_mul_right _ h1
  rw [Nat.add_mul, Nat.one_mul] at h2
  rw [Nat.pow_add, Nat.mul_comm (2 ^ m)]
  omega
theorem pack_step {X m : Nat} (s y j a q r t : Nat) (hX : X < 2 ^ m) (ha : a = m + j) (hs : a < 8 * s) (hq : q = a / 8 ∧ r = a % 8) (ht : t = y / 2 ^ j % 2) :
    (low (X + y % 2 ^ j * 2 ^ m) s).getD q 0 < 2 ^ r ∧ (low (X + y % 2 ^ j * 2 ^ m) s).set q ((low (X + y % 2 ^ j * 2 ^ m) s).getD q 0 + t * 2 ^ r) = low (X + y % 2 ^ (j + 1) * 2 ^ m) s := by
  obtain ⟨rfl, rfl⟩ := hq
  have h := low_set (X + y % 2 ^ j * 2 ^ m) s a t hs (by rw [ha]; exact part_lt y j hX) (by omega)
  refine ⟨h.2.1, h.1.trans ?_⟩
  congr 1
  rw [mod_succ_pow, Nat.add_mul, ht, ha, Nat.pow_add, Nat.add_assoc]
  congr 2
  rw [Nat.mul_comm (2 ^ m), ← Nat.mul_assoc, Nat.mul_comm (y / 2 ^ j % 2)]

end Go.Hm
