/- Whole numbers as floats: what is exact. No program is named here. -/
import Derived.Laws.ComplexArith

namespace Go.Hm
open Ieee
theorem dbl : Ieee.double.fractionBits = 52 ∧ Ieee.double.exponentBits = 11 := ⟨rfl, rfl⟩
theorem dbl_least : Ieee.double.leastPlace = -1074 := by decide
theorem dbl_binade : Ieee.double.binade = 4503599627370496 := by decide
theorem dbl_inf : Ieee.double.infRung = 9218868437227405312 := by decide
theorem dbl_sign : Ieee.double.signWeight = 9223372036854775808 := by decide
theorem cut_exact (way : Toward) (neg : Bool) (n d : Nat) : way.cut neg (n * 2 ^ d) d = n := by
  by_cases h0 : n = 0
  · subst h0
    unfold Toward.cut
    simp only [Nat.zero_mul, Nat.zero_div, Nat.zero_mod]
    cases way <;> simp
  · have hl : d ≤ (n * 2 ^ d).log2 := by
      rw [Nat.le_log2 (by have := Nat.two_pow_pos d; exact Nat.mul_ne_zero h0 (by omega))]
      exact Nat.le_mul_of_pos_left _ (by omega)
    have hm : min d ((n * 2 ^ d).log2 + 2) = d := Nat.min_eq_left (by omega)
    unfold Toward.cut
    simp only [hm, Nat.one_shiftLeft, Nat.mul_div_cancel _ (Nat.two_pow_pos d), Nat.mul_mod_left]
    have hp := Nat.two_pow_pos d
    cases way <;> simp <;> omega
theorem log2_mul_pow {n : Nat} (h : n ≠ 0) (k : Nat) : (n * 2 ^ k).log2 = n.log2 + k := by
  have hp := Nat.two_pow_pos k
  have h1 : 2 ^ (n.log2 + k) ≤ n * 2 ^ k := by
    rw [Nat.pow_add]
    exact Nat.mul_le_mul_right _ (Nat.log2_self_le h)
  have h2 : n * 2 ^ k < 2 ^ (n.log2 + k + 1) := by
    rw [show n.log2 + k + 1 = (n.log2 + 1) + k by omega, Nat.pow_add]
    exact Nat.mul_lt_mul_of_pos_right (Nat.lt_log2_self) hp
  have hne : n * 2 ^ k ≠ 0 := Nat.mul_ne_zero h (by omega)
  have a1 := (Nat.le_log2 hne).2 h1
  have a2 := (Nat.log2_lt hne).2 h2
  omega
theorem read_word (f : Format) (s : Bool) (R : Nat) (hR : R < f.signWeight) : f.read (f.word s R) =
    if R < f.binade then .number s R f.leastPlace
    else if R < f.infRung then .number s (f.binade + R % f.binade) (f.leastPlace + (R / f.binade - 1 : Nat))
    else if R = f.infRung then .infinity s else .nan s (R - f.infRung) := by
  have h1 : (f.word s R / f.signWeight % 2 == 1) = s := by
    unfold Format.word
    cases s with
    | false =>
      rw [if_neg (by simp), Nat.div_eq_of_lt hR]
      rfl
    | true =>
      rw [if_pos rfl, Nat.add_div_left _ (by omega), Nat.div_eq_of_lt hR]
      rfl
  have h2 : f.word s R % f.signWeight = R := by
    unfold Format.word
    cases s with
    | false => rw [if_neg (by simp), Nat.mod_eq_of_lt hR]
    | true => rw [if_pos rfl, Nat.add_mod_left, Nat.mod_eq_of_lt hR]
  unfold Format.read
  simp only [h1, h2]
/-- The nearest word of a whole number of fewer than 54 digits is that number. -/
theorem read_nearest (s : Bool) (n k : Nat) (hn : n < 9007199254740992) : ∃ k' : Nat, Ieee.double.read (Ieee.double.nearest s (n * 2 ^ k) (-(k : Int))) = .number s (n * 2 ^ k') (-(k' : Int)) := by
  by_cases h0 : n = 0
  · subst h0
    obtain ⟨j, hj⟩ : ∃ j : Nat, Ieee.double.leastPlace = -(j : Int) := ⟨1074, by rw [dbl_least]; rfl⟩
    refine ⟨j, ?_⟩
    rw [Nat.zero_mul, Nat.zero_mul, Format.nearest, if_pos rfl, read_word _ _ _ (by rw [dbl_sign]; omega), if_pos (by rw [dbl_binade]; omega), hj]
  · have hp := Nat.two_pow_pos k
    have hne : n * 2 ^ k ≠ 0 := Nat.mul_ne_zero h0 (by omega)
    have hlog : n.log2 ≤ 52 := by
      have := (Nat.log2_lt h0).2 (show n < 2 ^ 53 by omega)
      omega
    have e1 : (-(k : Int)) + ((n * 2 ^ k).log2 : Nat) - (52 : Nat) = (n.log2 : Int) - 52 := by rw [log2_mul_pow h0]; omega
    obtain ⟨d, hd⟩ : ∃ d, d = 52 - n.log2 := ⟨_, rfl⟩
    have hlast : max ((-(k : Int)) + ((n * 2 ^ k).log2 : Nat) - (Ieee.double.fractionBits : Nat)) Ieee.double.leastPlace = -(d : Int) := by
      rw [dbl.1, e1, dbl_least]
      omega
    have hkept : Toward.even.cut s ((n * 2 ^ k) <<< ((-(k : Int)) - -(d : Int)).toNat) (-(d : Int) - -(k : Int)).toNat = n * 2 ^ d := by
      by_cases hkd : k ≤ d
      · rw [show ((-(k : Int)) - -(d : Int)).toNat = d - k by omega, show (-(d : Int) - -(k : Int)).toNat = 0 by omega, Nat.shiftLeft_eq, Nat.mul_assoc, ← Nat.pow_add, show k + (d - k) = d by omega]
        have := cut_exact .even s (n * 2 ^ d) 0
        rwa [Nat.pow_zero, Nat.mul_one] at this
      · rw [show ((-(k : Int)) - -(d : Int)).toNat = 0 by omega, show (-(d : Int) - -(k : Int)).toNat = k - d by omega, Nat.shiftLeft_eq, Nat.pow_zero, Nat.mul_one]
        have := cut_exact .even s (n * 2 ^ d) (k - d)
        rwa [Nat.mul_assoc, ← Nat.pow_add, show d + (k - d) = k by omega] at this
    have hlo : 4503599627370496 ≤ n * 2 ^ d := by
      have := Nat.mul_le_mul_right (2 ^ d) (Nat.log2_self_le h0)
      rw [← Nat.pow_add, show n.log2 + d = 52 by omega] at this
      exact Nat.le_trans (by decide) this
    have hhi : n * 2 ^ d < 9007199254740992 := by
      have := Nat.mul_lt_mul_of_pos_right (Nat.lt_log2_self (n := n)) (Nat.two_pow_pos d)
      rw [← Nat.pow_add, show n.log2 + 1 + d = 53 by omega] at this
      exact Nat.lt_of_lt_of_le this (by decide)
    refine ⟨d, ?_⟩
    have hd2 : d ≤ 52 := by omega
    have hw : Ieee.double.nearest s (n * 2 ^ k) (-(k : Int)) = Ieee.double.word s (min ((-(d : Int) - Ieee.double.leastPlace).toNat * Ieee.double.binade + n * 2 ^ d) Ieee.double.infRung) := by
      unfold Format.nearest
      rw [if_neg hne]
      simp only [hlast, hkept]
    clear hlast hkept hlog e1 hd hne hp h0 hn
    generalize Ieee.double.nearest s (n * 2 ^ k) (-(k : Int)) = V at *
    generalize n * 2 ^ d = K at *
    rw [hw, read_word _ _ _ (by rw [dbl_sign, dbl_inf]; omega)]
    have e2 : (-(d : Int) - Ieee.double.leastPlace).toNat = 1074 - d := by rw [dbl_least]; omega
    rw [e2, dbl_binade, dbl_inf, dbl_least]
    generalize hm : 1074 - d = m
    have hm2 : m ≤ 1074 ∧ 1022 ≤ m := by omega
    have hr : min (m * 4503599627370496 + K) 9218868437227405312 = m * 4503599627370496 + K := Nat.min_eq_left (by omega)
    rw [hr]
    have r1 : ¬ m * 4503599627370496 + K < 4503599627370496 := by omega
    have r2 : m * 4503599627370496 + K < 9218868437227405312 := by omega
    have r3 : 4503599627370496 + (m * 4503599627370496 + K) % 4503599627370496 = K := by omega
    have r4 : (m * 4503599627370496 + K) / 4503599627370496 - 1 = m := by omega
    have r5 : (-1074 : Int) + (m : Int) = -(d : Int) := by omega
    rw [if_neg r1, if_pos r2, r3, r4, r5]
/-- The datum is the number x (of either sign, if it is none). -/
def RepD (x : Int) (d : Datum) : Prop := ∃ (s : Bool) (k : Nat), d = .number s (x.natAbs * 2 ^ k) (-(k : Int)) ∧ (x ≠ 0 → s = decide (x < 0))
/-- The word reads as the number x. -/
def Rep (x : Int) (b : Nat) : Prop := RepD x (Ieee.double.read b)
theorem signed_rep {s : Bool} {x : Int} (h : x ≠ 0 → s = decide (x < 0)) (k u : Nat) : Ieee.signed s (x.natAbs * 2 ^ k) u = x * ((2 ^ (k + u) : Nat) : Int) := by
  have e : (x.natAbs * 2 ^ k) <<< u = x.natAbs * 2 ^ (k + u) := by rw [Nat.shiftLeft_eq, Nat.mul_assoc, ← Nat.pow_add]
  unfold Ieee.signed
  rw [e]
  generalize 2 ^ (k + u) = p
  by_cases h0 : x = 0
  · subst h0
    cases s <;> simp
  · by_cases hx : x < 0
    · rw [h h0, decide_eq_true hx, if_pos rfl, Int.natCast_mul, show ((x.natAbs : Nat) : Int) = -x by omega, Int.neg_mul, Int.neg_neg]
    · rw [h h0, decide_eq_false hx, if_neg (by simp), Int.natCast_mul, show ((x.natAbs : Nat) : Int) = x by omega]
theorem RepD.write {x : Int} {d : Datum} (h : RepD x d) (hx : x.natAbs < 9007199254740992) : Rep x (Ieee.double.write d) := by
  obtain ⟨s, k, rfl, hs⟩ := h
  obtain ⟨j, hj⟩ := read_nearest s x.natAbs k hx
  exact ⟨s, j, hj, hs⟩
theorem RepD.opposite {x : Int} {d : Datum} (h : RepD x d) : RepD (-x) d.opposite := by
  obtain ⟨s, k, rfl, hs⟩ := h
  refine ⟨!s, k, ?_, fun h0 => ?_⟩
  · rw [Int.natAbs_neg]
    rfl
  · rw [hs (by omega)]
    by_cases hx : x < 0
    · rw [decide_eq_true hx, decide_eq_false (by omega)]
      rfl
    · rw [decide_eq_false hx, decide_eq_true (by omega)]
      rfl
theorem RepD.product {x y : Int} {d e : Datum} (h : RepD x d) (h2 : RepD y e) : ∃ r, d.product e = some r ∧ RepD (x * y) r := by
  obtain ⟨s, k, rfl, hs⟩ := h
  obtain ⟨t, j, rfl, ht⟩ := h2
  refine ⟨_, rfl, s ^^ t, k + j, ?_, fun h0 => ?_⟩
  · rw [Int.natAbs_mul, Nat.pow_add]
    congr 1
    · generalize 2 ^ k = p
      generalize 2 ^ j = q
      simp only [Nat.mul_assoc, Nat.mul_left_comm, Nat.mul_comm]
    · omega
  · have hx : x ≠ 0 := by rintro rfl; simp at h0
    have hy : y ≠ 0 := by rintro rfl; simp at h0
    rw [hs hx, ht hy]
    rcases Int.lt_or_gt_of_ne hx with hx | hx <;> rcases Int.lt_or_gt_of_ne hy with hy | hy
    · have := Int.mul_pos_of_neg_of_neg hx hy
      simp [hx, hy]; omega
    · have := Int.mul_neg_of_neg_of_pos hx hy
      simp [hx, this]; omega
    · have := Int.mul_neg_of_pos_of_neg hx hy
      simp [hy, this]; omega
    · have := Int.mul_pos hx hy
      have a1 : ¬ x < 0 := by omega
      have a2 : ¬ y < 0 := by omega
      have a3 : ¬ x * y < 0 := by omega
      simp [a1, a2, a3]
theorem RepD.sum {x y : Int} {d e : Datum} (h : RepD x d) (h2 : RepD y e) : ∃ r, d.sum e = some r ∧ RepD (x + y) r := by
  obtain ⟨s, k, rfl, hs⟩ := h
  obtain ⟨t, j, rfl, ht⟩ := h2
  obtain ⟨m, hm⟩ : ∃ m, m = max k j := ⟨_, rfl⟩
  have hb : min (-(k : Int)) (-(j : Int)) = -(m : Int) := by omega
  have hk : k + (-(k : Int) - -(m : Int)).toNat = m := by omega
  have hj : j + (-(j : Int) - -(m : Int)).toNat = m := by omega
  have ht : Ieee.signed s (x.natAbs * 2 ^ k) (-(k : Int) - -(m : Int)).toNat + Ieee.signed t (y.natAbs * 2 ^ j) (-(j : Int) - -(m : Int)).toNat = (x + y) * ((2 ^ m : Nat) : Int) := by
    rw [signed_rep hs, signed_rep ht, hk, hj, Int.add_mul]
  have hp : 0 < 2 ^ m := Nat.two_pow_pos m
  refine ⟨_, rfl, ?_⟩
  simp only [hb, ht]
  generalize x + y = z
  refine ⟨if z * ((2 ^ m : Nat) : Int) = 0 then s && t else decide (z * ((2 ^ m : Nat) : Int) < 0), m, ?_, fun h0 => ?_⟩
  · rw [Int.natAbs_mul, Int.natAbs_natCast]
  · have hz : ¬ z * ((2 ^ m : Nat) : Int) = 0 := by
      rw [Int.mul_eq_zero]
      rintro (hh | hh)
      · exact h0 hh
      · omega
    rw [if_neg hz]
    have hp2 : (0 : Int) < ((2 ^ m : Nat) : Int) := by omega
    generalize ((2 ^ m : Nat) : Int) = p at *
    congr 1
    rw [eq_iff_iff]
    constructor
    · intro hh
      exact Classical.byContradiction fun hn => by
        have := Int.mul_nonneg (show 0 ≤ z by omega) (show 0 ≤ p by omega)
        omega
    · intro hh
      exact Int.mul_neg_of_neg_of_pos hh hp2
theorem RepD.toInt {x : Int} {d : Datum} (h : RepD x d) : d.toInt .zero = some x := by
  obtain ⟨s, k, rfl, hs⟩ := h
  have e1 : (-(k : Int)).toNat = 0 := by omega
  have e2 : (-(-(k : Int))).toNat = k := by omega
  have e3 := signed_rep hs 0 0
  rw [Nat.pow_zero, Nat.mul_one] at e3
  simp only [Datum.toInt, Datum.integral, e1, e2, Nat.shiftLeft_zero, cut_exact]
  rw [e3]
  simp
theorem rep_ofInt (n : Int) (h : n.natAbs < 9007199254740992) : Rep n (floatOfInt .f64 n) := by
  have : RepD n (.number (n < 0) n.natAbs 0) := ⟨decide (n < 0), 0, by simp, fun _ => rfl⟩
  exact this.write h
theorem rep_mul {x y : Int} {a b : Nat} (h : Rep x a) (h2 : Rep y b) (hx : (x * y).natAbs < 9007199254740992) : ∃ r, floatBits .mul .f64 a b = some r ∧ Rep (x * y) r := by
  obtain ⟨r, h3, h4⟩ := RepD.product h h2
  exact ⟨Ieee.double.write r, by show ((Ieee.double.read a).product (Ieee.double.read b)).map Ieee.double.write = _; rw [h3]; rfl, h4.write hx⟩
theorem rep_add {x y : Int} {a b : Nat} (h : Rep x a) (h2 : Rep y b) (hx : (x + y).natAbs < 9007199254740992) : ∃ r, floatBits .add .f64 a b = some r ∧ Rep (x + y) r := by
  obtain ⟨r, h3, h4⟩ := RepD.sum h h2
  exact ⟨Ieee.double.write r, by show ((Ieee.double.read a).sum (Ieee.double.read b)).map Ieee.double.write = _; rw [h3]; rfl, h4.write hx⟩
theorem rep_sub {x y : Int} {a b : Nat} (h : Rep x a) (h2 : Rep y b) (hx : (x - y).natAbs < 9007199254740992) : ∃ r, floatBits .sub .f64 a b = some r ∧ Rep (x - y) r := by
  obtain ⟨r, h3, h4⟩ := RepD.sum h (RepD.opposite h2)
  exact ⟨Ieee.double.write r, by show ((Ieee.double.read a).sum (Ieee.double.read b).opposite).map Ieee.double.write = _; rw [h3]; rfl, h4.write hx⟩
theorem rep_int {x : Int} {a : Nat} (h : Rep x a) (hx : -9223372036854775808 ≤ x ∧ x ≤ 9223372036854775807) : floatToIntVal .f64 a .i64 = some x := by
  have h3 : (FloatKind.f64.decode a).toInt .zero = some x := RepD.toInt h
  unfold floatToIntVal
  rw [h3]
  exact if_pos hx
/-- A complex number of whole parts. -/
def RepC (x y : Int) (a b : Nat) : Prop := Rep x a ∧ Rep y b
theorem repC_mul {x y u v : Int} {a b c d : Nat} (h : RepC x y a b) (h2 : RepC u v c d) (h3 : (x * u).natAbs < 9007199254740992) (h4 : (y * v).natAbs < 9007199254740992) (h5 : (x * u - y * v).natAbs < 9007199254740992)
    (h6 : (x * v).natAbs < 9007199254740992) (h7 : (y * u).natAbs < 9007199254740992) (h8 : (x * v + y * u).natAbs < 9007199254740992) : ∃ re im, cMulBits a b c d = some (re, im) ∧ RepC (x * u - y * v) (x * v + y * u) re im := by
  obtain ⟨r1, e1, k1⟩ := rep_mul h.1 h2.1 h3
  obtain ⟨r2, e2, k2⟩ := rep_mul h.2 h2.2 h4
  obtain ⟨r3, e3, k3⟩ := rep_sub k1 k2 h5
  obtain ⟨r4, e4, k4⟩ := rep_mul h.1 h2.2 h6
  obtain ⟨r5, e5, k5⟩ := rep_mul h.2 h2.1 h7
  obtain ⟨r6, e6, k6⟩ := rep_add k4 k5 h8
  exact ⟨r3, r6, by simp [cMulBits, e1, e2, e3, e4, e5, e6], k3, k6⟩
theorem repC_add {x y u v : Int} {a b c d : Nat} (h : RepC x y a b) (h2 : RepC u v c d) (h3 : (x + u).natAbs < 9007199254740992) (h4 : (y + v).natAbs < 9007199254740992) : ∃ re im, cSumBits .add .f64 a b c d = some (re, im) ∧ RepC (x + u) (y + v) re im := by
  obtain ⟨r1, e1, k1⟩ := rep_add h.1 h2.1 h3
  obtain ⟨r2, e2, k2⟩ := rep_add h.2 h2.2 h4
  exact ⟨r1, r2, by simp [cSumBits, e1, e2], k1, k2⟩
theorem repC_sub {x y u v : Int} {a b c d : Nat} (h : RepC x y a b) (h2 : RepC u v c d) (h3 : (x - u).natAbs < 9007199254740992) (h4 : (y - v).natAbs < 9007199254740992) : ∃ re im, cSumBits .sub .f64 a b c d = some (re, im) ∧ RepC (x - u) (y - v) re im := by
  obtain ⟨r1, e1, k1⟩ := rep_sub h.1 h2.1 h3
  obtain ⟨r2, e2, k2⟩ := rep_sub h.2 h2.2 h4
  exact ⟨r1, r2, by simp [cSumBits, e1, e2], k1, k2⟩
theorem read_neg (f : Format) (b : Nat) : f.read (b ^^^ 2 ^ (f.exponentBits + f.fractionBits)) = (f.read b).opposite := by
  have hS : f.signWeight = 2 ^ (f.exponentBits + f.fractionBits) := rfl
  generalize hn : f.exponentBits + f.fractionBits = n at *
  have hp := Nat.two_pow_pos n
  have h1 : ((b ^^^ 2 ^ n) / 2 ^ n % 2 == 1) = !(b / 2 ^ n % 2 == 1) := by
    rw [Nat.xor_div_two_pow, Nat.div_self hp]
    generalize b / 2 ^ n = c
    have e : (c ^^^ 1) % 2 = (c % 2) ^^^ 1 := by
      have := @Nat.xor_mod_two_pow c 1 1
      simpa using this
    rw [e]
    rcases Nat.mod_two_eq_zero_or_one c with h | h
    · rw [h]
      rfl
    · rw [h]
      rfl
  have h2 : (b ^^^ 2 ^ n) % 2 ^ n = b % 2 ^ n := by
    rw [Nat.xor_mod_two_pow, Nat.mod_self, Nat.xor_zero]
  unfold Format.read
  rw [hS]
  simp only [h1, h2]
  generalize b % 2 ^ n = R
  by_cases a1 : R < f.binade
  · rw [if_pos a1, if_pos a1]
    rfl
  · rw [if_neg a1, if_neg a1]
    by_cases a2 : R < f.infRung
    · rw [if_pos a2, if_pos a2]
      rfl
    · rw [if_neg a2, if_neg a2]
      by_cases a3 : R = f.infRung
      · rw [if_pos a3, if_pos a3]
        rfl
      · rw [if_neg a3, if_neg a3]
        rfl
theorem rep_neg {x : Int} {b : Nat} (h : Rep x b) : Rep (-x) (Op.negFloat .f64 b) := by
  have := RepD.opposite h
  rw [← read_neg] at this
  exact this
theorem unary_negF (k : FloatKind) (b : Nat) : Op.unary .neg (.float k b) = pure (.float k (Op.negFloat k b)) := rfl
/-- The square of a right point, by its complex number. -/
theorem repC_norm {x y : Int} {a b : Nat} (h : RepC x y a b) (hx : -2097152 ≤ x ∧ x ≤ 2097152) (hy : -2097152 ≤ y ∧ y ≤ 2097152) : ∃ re im, cMulBits a b a (Op.negFloat .f64 b) = some (re, im) ∧ floatToIntVal .f64 re .i64 = some (x * x + y * y) := by
  have q : ∀ u v : Int, -2097152 ≤ u ∧ u ≤ 2097152 → -2097152 ≤ v ∧ v ≤ 2097152 → -4398046511104 ≤ u * v ∧ u * v ≤ 4398046511104 := by
    intro u v hu hv
    have h1 : (u * v).natAbs ≤ 2097152 * 2097152 := by
      rw [Int.natAbs_mul]
      exact Nat.mul_le_mul (by omega) (by omega)
    omega
  have h1 := q x x hx hx
  have h2 := q y (-y) hy (by omega)
  have h3 := q x (-y) hx (by omega)
  have h4 := q y x hy hx
  have e : y * -y = -(y * y) := by rw [Int.mul_neg]
  obtain ⟨re, im, k1, k2⟩ := repC_mul h ⟨h.1, rep_neg h.2⟩ (by omega) (by omega) (by omega) (by omega) (by omega) (by omega)
  refine ⟨re, im, k1, ?_⟩
  have := rep_int k2.1 (by omega)
  rw [this, e, Int.sub_neg]

end Go.Hm
