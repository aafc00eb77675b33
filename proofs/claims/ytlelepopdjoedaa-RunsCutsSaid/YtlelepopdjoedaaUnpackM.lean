/- Numbers taken out of bytes, as plain lists. No program is named here. -/
import Derived.Test.YtlelepopdjoedaaPackM
import Derived.Test.YtlelepopdjoedaaMore
import Derived.Test.YtlelepopdjoedaaBits

namespace Go.Hm
/-- p numbers, k bits of the next one, and nothing yet of the others. -/
def ul (w p k B n : Nat) : List Nat := unpk w p B ++ (B / 2 ^ (w * p) % 2 ^ k) :: List.replicate (n - p - 1) 0
theorem ul_zero (w p B n : Nat) (h : p < n) : unpk w p B ++ List.replicate (n - p) 0 = ul w p 0 B n := by
  rw [ul, show n - p = (n - p - 1) + 1 by omega, List.replicate_succ, Nat.pow_zero, Nat.mod_one]
  rfl
theorem ul_all (w p B n : Nat) : ul w p w B n = unpk w (p + 1) B ++ List.replicate (n - (p + 1)) 0 := by
  rw [ul, unpk, List.append_assoc, show n - p - 1 = n - (p + 1) by omega]
  rfl
theorem ul_len (w p k B n : Nat) (h : p < n) : (ul w p k B n).length = n := by
  rw [ul, List.length_append, unpk_len, List.length_cons, List.length_replicate]; omega
theorem ul_getD (w p k B n : Nat) : (ul w p k B n).getD p 0 = B / 2 ^ (w * p) % 2 ^ k := by
  rw [ul, List.getD_eq_getElem?_getD, List.getElem?_append_right (by rw [unpk_len]; exact Nat.le_refl _), unpk_len]
  simp
theorem ul_step (w p k B n a t : Nat) (ha : a = w * p + k) (ht : t = B / 2 ^ a % 2) : (ul w p k B n).set p (B / 2 ^ (w * p) % 2 ^ k + t * 2 ^ k) = ul w p (k + 1) B n := by
  have e : B / 2 ^ (w * p) % 2 ^ (k + 1) = B / 2 ^ (w * p) % 2 ^ k + t * 2 ^ k := by
    rw [mod_succ_pow, Nat.div_div_eq_div_mul, ← Nat.pow_add, ← ha, ← ht, Nat.mul_comm t]
  rw [ul, ul, e, List.set_append_right _ _ (by rw [unpk_len]; exact Nat.le_refl _), unpk_len, Nat.sub_self]
  rfl
theorem bit_at (b : List Nat) (h : ∀ x ∈ b, x < 256) (a q r : Nat) (hq : q = a / 8 ∧ r = a % 8) (ha : a < 8 * b.length) : b.getD q 0 / 2 ^ r % 2 = num b / 2 ^ a % 2 := by
  obtain ⟨rfl, rfl⟩ := hq
  rw [num_byte b h _ (by omega)]
  have e : (256 : Nat) = 2 ^ (a % 8) * 2 ^ (8 - a % 8) := by rw [← Nat.pow_add, show a % 8 + (8 - a % 8) = 8 by omega]
  have e2 : 2 ^ (8 - a % 8) = 2 * 2 ^ (7 - a % 8) := by rw [← Nat.pow_succ']; congr 1; omega
  rw [show num b / 256 ^ (a / 8) % 256 = num b / 256 ^ (a / 8) % (2 ^ (a % 8) * 2 ^ (8 - a % 8)) by rw [← e], Nat.mod_mul_right_div_self, e2, Nat.mod_mul_right_mod, Nat.div_div_eq_div_mul, p256, ← Nat.pow_add]
  congr 3
  omega
/-- Whether what is left of the last byte is 0. -/
theorem num_last (b : List Nat) (h : ∀ x ∈ b, x < 256) (M r : Nat) (hl : b.length = (M + 7) / 8) (hr : r = M % 8) : num b < 2 ^ M ↔ (r = 0 ∨ b.getD (b.length - 1) 0 / 2 ^ r = 0) := by
  have hb := num_lt b h
  by_cases h0 : r = 0
  · have : M = 8 * b.length := by omega
    rw [p256, ← this] at hb
    simp [h0, hb]
  · have hl2 : b.length - 1 < b.length := by omega
    have hM : M = 8 * (b.length - 1) + r := by omega
    have e := num_byte b h _ hl2
    have hlt : num b / 256 ^ (b.length - 1) < 256 := by
      apply Nat.div_lt_of_lt_mul
      rw [← Nat.pow_succ, show (b.length - 1).succ = b.length by omega]
      exact hb
    rw [Nat.mod_eq_of_lt hlt] at e
    rw [e, hM, Nat.pow_add, ← p256]
    constructor
    · intro hh
      exact .inr (Nat.div_eq_of_lt (Nat.div_lt_of_lt_mul hh))
    · rintro (hh | hh)
      · exact absurd hh h0
      · have h1 : num b / 256 ^ (b.length - 1) < 2 ^ r := by
          rcases Nat.lt_or_ge (num b / 256 ^ (b.length - 1)) (2 ^ r) with h2 | h2
          · exact h2
          · have := Nat.div_pos h2 (Nat.two_pow_pos r)
            omega
        rw [Nat.mul_comm]
        exact (Nat.div_lt_iff_lt_mul (Nat.pow_pos (by omega))).1 h1
theorem or_bit64 (v k t : Nat) (hv : v < 2 ^ k) (ht : t ≤ 1) (hk : k < 64) : bits .or .u64 (v : Int) (IntKind.u64.wrap ((t : Int) * 2 ^ k)) = ((v + t * 2 ^ k : Nat) : Int) := by
  have h7 : 2 ^ (k + 1) ≤ 2 ^ 64 := Nat.pow_le_pow_right (by omega) (by omega)
  rw [Nat.pow_succ] at h7
  have hq : t * 2 ^ k ≤ 1 * 2 ^ k := Nat.mul_le_mul_right _ ht
  have e : IntKind.u64.wrap ((t : Int) * 2 ^ k) = ((t * 2 ^ k : Nat) : Int) := by
    have e2 : ((t * 2 ^ k : Nat) : Int) = (t : Int) * 2 ^ k := by simp
    rw [← e2, IntKind.wrap_u64]; omega
  rw [e, u64_or_nat _ _ (by omega) (by omega), Nat.or_comm, ← Nat.mul_comm (2 ^ k), ← Nat.two_pow_add_eq_or_of_lt hv, Nat.add_comm]

/-- One more bit, above all that there are. -/
theorem unpk_set (w n X a c : Nat) (hw : 0 < w) (ha : a < w * n) (hX : X < 2 ^ a) (hc : c ≤ 1) :
    (unpk w n X).set (a / w) ((unpk w n X).getD (a / w) 0 + c * 2 ^ (a % w)) = unpk w n (X + c * 2 ^ a) ∧ (unpk w n X).getD (a / w) 0 < 2 ^ (a % w) := by
  have hq : a / w < n := Nat.div_lt_of_lt_mul ha
  have hr := Nat.mod_lt a hw
  have hda := Nat.div_add_mod a w
  have ea : 2 ^ a = 2 ^ (w * (a / w)) * 2 ^ (a % w) := by rw [← Nat.pow_add, hda]
  have hrw : 2 ^ (a % w + 1) ≤ 2 ^ w := Nat.pow_le_pow_right (by omega) (by omega)
  rw [Nat.pow_succ] at hrw
  have h0 : X / 2 ^ (w * (a / w)) < 2 ^ (a % w) := by
    apply Nat.div_lt_of_lt_mul
    rw [← ea]; exact hX
  have hb : (unpk w n X).getD (a / w) 0 = X / 2 ^ (w * (a / w)) := by
    rw [unpk_getD _ _ _ _ hq]; exact Nat.mod_eq_of_lt (by omega)
  have hcc : c * 2 ^ (a % w) ≤ 1 * 2 ^ (a % w) := Nat.mul_le_mul_right _ hc
  have hlt : X / 2 ^ (w * (a / w)) + c * 2 ^ (a % w) < 2 ^ w := by omega
  refine ⟨?_, by rw [hb]; exact h0⟩
  refine List.ext_getElem (by simp [unpk_len]) fun i h1 h2 => ?_
  have h2' : i < n := by rwa [unpk_len] at h2
  have h1' : i < (unpk w n X).length := by rwa [unpk_len]
  have e2 : (unpk w n (X + c * 2 ^ a))[i] = (X + c * 2 ^ a) / 2 ^ (w * i) % 2 ^ w := by
    rw [← unpk_getD _ _ _ _ h2', List.getD_eq_getElem?_getD, List.getElem?_eq_getElem h2]; rfl
  have e1 : (unpk w n X)[i]'h1' = X / 2 ^ (w * i) % 2 ^ w := by
    rw [← unpk_getD _ _ _ _ h2', List.getD_eq_getElem?_getD, List.getElem?_eq_getElem h1']; rfl
  rw [e2, List.getElem_set]
  by_cases hi : a / w = i
  · subst hi
    rw [if_pos rfl, hb, ea, show c * (2 ^ (w * (a / w)) * 2 ^ (a % w)) = 2 ^ (w * (a / w)) * (c * 2 ^ (a % w)) from Nat.mul_left_comm _ _ _, Nat.add_mul_div_left _ _ (Nat.two_pow_pos _), Nat.mod_eq_of_lt hlt]
  · rw [if_neg hi, e1]
    rcases Nat.lt_or_gt_of_ne hi with hlt' | hgt
    · have hwi : w * (a / w + 1) ≤ w * i := Nat.mul_le_mul_left _ hlt'
      rw [Nat.mul_succ] at hwi
      have hp : 2 ^ (a + 1) ≤ 2 ^ (w * i) := Nat.pow_le_pow_right (by omega) (by omega)
      have hca : c * 2 ^ a ≤ 1 * 2 ^ a := Nat.mul_le_mul_right _ hc
      rw [Nat.pow_succ] at hp
      rw [Nat.div_eq_of_lt (by omega), Nat.div_eq_of_lt (by omega)]
    · have hwi : w * (i + 1) ≤ w * (a / w) := Nat.mul_le_mul_left _ hgt
      rw [Nat.mul_succ] at hwi
      have es : 2 ^ a = 2 ^ (w * i) * (2 ^ w * 2 ^ (a - (w * i + w))) := by
        rw [← Nat.pow_add, ← Nat.pow_add]; congr 1; omega
      rw [es, show c * (2 ^ (w * i) * (2 ^ w * 2 ^ (a - (w * i + w)))) = 2 ^ (w * i) * (2 ^ w * (c * 2 ^ (a - (w * i + w)))) by simp only [Nat.mul_left_comm], Nat.add_mul_div_left _ _ (Nat.two_pow_pos _), Nat.add_mul_mod_self_left]
theorem unpk_zero (w n : Nat) : unpk w n 0 = List.replicate n 0 := by
  induction n with
  | zero => rfl
  | succ n ih => rw [unpk, ih, List.replicate_succ']; simp
theorem and_bit8 (y r t : Nat) (hy : y < 256) (ht : t = y / 2 ^ r % 2) : bits .and .u8 ((y : Int) / 2 ^ r) 1 = (t : Int) := by
  have h1 : y / 2 ^ r ≤ y := Nat.div_le_self _ _
  have := u8_and_nat (y / 2 ^ r) 1 (by omega) (by omega)
  rw [Nat.and_one_is_mod, ← ht] at this
  rw [← this]
  congr 1

end Go.Hm
