/- More lemmas on memory and numbers for walks. No program is named here. -/
import Derived.Test.YtlelepopdjoedaaMem
import Derived.Test.YtlelepopdjoedaaSpec
import Derived.IntWalk

namespace Go.Hm
open Go.RowKit

/-- One element of a row of the call's own that begins a known block. -/
theorem Own.at0 {w : World} {base : Nat} {e : TypeId} {g n c i : Nat} {xs : List Value} (h : Own w base e (.slice (some ⟨g, 0, none⟩) n c) xs) (hi : i < n) :
    ∃ u, xs[i]? = some u ∧ base ≤ g ∧ g < w.heap.size ∧ w.cell? ⟨g, i, none⟩ = some u ∧ w.frozen? ⟨g, i, none⟩ = false ∧
      ∀ u' : Value, Own (w.setCell ⟨g, i, none⟩ u') base e (.slice (some ⟨g, 0, none⟩) n c) (xs.set i u') := by
  obtain ⟨g', u, he, h1, h2, h3, h4, h5, h6⟩ := h.at_ hi
  injection he with he
  injection he with he
  subst he
  exact ⟨u, h3, h1, h2, h4, h5, h6⟩
theorem Own.num0 {w : World} {base : Nat} {e : TypeId} {g n c i : Nat} {k : IntKind} {l : List Nat} (h : Own w base e (.slice (some ⟨g, 0, none⟩) n c) (nums k l)) (hi : i < n) :
    base ≤ g ∧ g < w.heap.size ∧ w.cell? ⟨g, i, none⟩ = some (.int k ((l.getD i 0 : Nat) : Int)) ∧ w.frozen? ⟨g, i, none⟩ = false ∧
      ∀ y : Nat, Own (w.setCell ⟨g, i, none⟩ (.int k (y : Int))) base e (.slice (some ⟨g, 0, none⟩) n c) (nums k (l.set i y)) := by
  have hn := h.len
  rw [nums_length] at hn
  obtain ⟨u, h3, h1, h2, h4, h5, h6⟩ := h.at0 hi
  rw [nums_at k l i (by omega)] at h3
  injection h3 with h3
  subst h3
  exact ⟨h1, h2, h4, h5, fun y => by rw [← nums_set]; exact h6 _⟩
theorem divN (a b : Nat) (ha : a ≤ 9223372036854775807) : IntKind.i64.wrap ((a : Int) / (b : Int)) = ((a / b : Nat) : Int) := by
  rw [← Int.natCast_ediv]
  have : a / b ≤ a := Nat.div_le_self _ _
  generalize a / b = q at *
  exact IntWalk.i64_in _ (by omega)
/-- Eighths: the byte and the bit of a place. -/
theorem eighths (a : Nat) (ha : a ≤ 9223372036854775807) : ∃ q r : Nat, Hid (q = a / 8 ∧ r = a % 8) ∧ 8 * q ≤ a ∧ r < 8 ∧ a < 8 * q + 8 ∧ IntKind.i64.wrap ((a : Int) / 8) = (q : Int) ∧ (a : Int).tmod 8 = (r : Int) :=
  ⟨a / 8, a % 8, Lib.hid ⟨rfl, rfl⟩, by omega, by omega, by omega, divN a 8 ha, by rw [Int.tmod_eq_emod_of_nonneg (by omega)]; omega⟩
/-- One bit of a number. -/
theorem bit64 (y j : Nat) (hy : y ≤ 18446744073709551615) : ∃ t : Nat, Hid (t = y / 2 ^ j % 2) ∧ t ≤ 1 ∧ bits .and .u64 ((y : Int) / 2 ^ j) 1 = (t : Int) ∧ IntKind.u8.wrap (t : Int) = (t : Int) := by
  refine ⟨y / 2 ^ j % 2, Lib.hid rfl, by omega, ?_, by rw [IntKind.wrap_u8]; omega⟩
  have h1 : y / 2 ^ j ≤ y := Nat.div_le_self _ _
  have := u64_and_nat (y / 2 ^ j) 1 (by omega) (by omega)
  rw [Nat.and_one_is_mod] at this
  rw [← this]
  congr 1
theorem getD_mem {L : List Nat} {k : Nat} {P : Nat → Prop} (h : ∀ x ∈ L, P x) (hk : k < L.length) : P (L.getD k 0) := by
  rw [List.getD_eq_getElem?_getD, List.getElem?_eq_getElem hk]
  exact h _ (List.getElem_mem hk)
/-- The byte x, y's bit behind it, at 2^r. -/
theorem or_bit8 (b r q : Nat) (hb : b < 2 ^ r) (hc : q ≤ 1) (hr : r < 8) : bits .or .u8 (b : Int) ((q : Int) * 2 ^ r % 256) = ((b + q * 2 ^ r : Nat) : Int) := by
  have h7 : 2 ^ r ≤ 2 ^ 7 := Nat.pow_le_pow_right (by omega) (by omega)
  have hq : q * 2 ^ r ≤ 1 * 2 ^ r := Nat.mul_le_mul_right _ hc
  have e : ((q : Int) * 2 ^ r % 256) = ((q * 2 ^ r : Nat) : Int) := by
    have e2 : ((q * 2 ^ r : Nat) : Int) = (q : Int) * 2 ^ r := by simp
    rw [← e2]; omega
  rw [e, u8_or_nat _ _ (by omega) (by omega), Nat.or_comm, ← Nat.mul_comm (2 ^ r), ← Nat.two_pow_add_eq_or_of_lt hb, Nat.add_comm]

end Go.Hm
