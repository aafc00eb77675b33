/- Plain facts of the order of numbers and points. No program is named here. -/
import Derived.Test.YtbphmcinbckgbaaPtC

namespace Go.Hm
open Go Go.RowKit
theorem cmpI_le {x y : Int} : cmpI x y ≤ 0 ↔ x ≤ y := by
  unfold cmpI
  split
  · omega
  · split <;> omega
theorem cmpI_zero {x y : Int} : cmpI x y = 0 ↔ x = y := by
  unfold cmpI
  split
  · omega
  · split <;> omega
theorem cmpI_neg (x y : Int) : cmpI y x = -cmpI x y := by
  unfold cmpI
  by_cases h1 : x < y
  · rw [if_pos h1, if_neg (by omega), if_pos h1]; rfl
  · by_cases h2 : y < x
    · rw [if_pos h2, if_neg h1, if_pos h2]
    · rw [if_neg h2, if_neg h1, if_neg h1, if_neg h2]; rfl
theorem orI3 (a b c : Int) : orI [a, b, c] = if a = 0 then (if b = 0 then c else b) else a := by
  simp only [orI]
  by_cases h1 : a = 0 <;> by_cases h2 : b = 0 <;> by_cases h3 : c = 0 <;> simp [h1, h2, h3]
theorem cmpP_neg (x y u v : Int) : cmpP u v x y = -cmpP x y u v := by
  unfold cmpP
  rw [cmpI_neg (x * x + y * y), cmpI_neg x, cmpI_neg y, orI3, orI3]
  by_cases h1 : cmpI (x * x + y * y) (u * u + v * v) = 0
  · rw [if_pos (by omega), if_pos h1]
    by_cases h2 : cmpI x u = 0
    · rw [if_pos (by omega), if_pos h2]
    · rw [if_neg (by omega), if_neg h2]
  · rw [if_neg (by omega), if_neg h1]
theorem cmpP_zero {x y u v : Int} : cmpP x y u v = 0 ↔ x = u ∧ y = v := by
  unfold cmpP
  rw [orI3]
  constructor
  · intro h
    split at h
    · split at h
      · rename_i h1 h2
        exact ⟨cmpI_zero.1 h2, cmpI_zero.1 h⟩
      · rename_i h1 h2
        exact absurd h h2
    · rename_i h1
      exact absurd h h1
  · rintro ⟨rfl, rfl⟩
    simp [cmpI_self]
theorem cmpP_le {x y u v : Int} : cmpP x y u v ≤ 0 ↔ x * x + y * y < u * u + v * v ∨ (x * x + y * y = u * u + v * v ∧ (x < u ∨ (x = u ∧ y ≤ v))) := by
  unfold cmpP
  rw [orI3]
  generalize x * x + y * y = n
  generalize u * u + v * v = m
  have a1 := @cmpI_le n m
  have a2 := @cmpI_zero n m
  have b1 := @cmpI_le x u
  have b2 := @cmpI_zero x u
  have c1 := @cmpI_le y v
  split
  · split
    · omega
    · omega
  · omega
theorem cmpP_trans {x y u v r s : Int} (h1 : cmpP x y u v ≤ 0) (h2 : cmpP u v r s ≤ 0) : cmpP x y r s ≤ 0 := by
  rw [cmpP_le] at *
  generalize x * x + y * y = n at *
  generalize u * u + v * v = m at *
  generalize r * r + s * s = k at *
  omega
theorem cmpP_one (x y u v : Int) : cmpP x y u v = -1 ∨ cmpP x y u v = 0 ∨ cmpP x y u v = 1 := by
  have q : ∀ a b : Int, cmpI a b = -1 ∨ cmpI a b = 0 ∨ cmpI a b = 1 := by
    intro a b
    unfold cmpI
    split
    · simp
    · split <;> simp
  unfold cmpP
  rw [orI3]
  split
  · split
    · exact q _ _
    · exact q _ _
  · exact q _ _
theorem cmpP_least (x y : Int) : cmpP 0 0 x y ≤ 0 := by
  rw [cmpP_le]
  have h1 : 0 ≤ x * x := by
    rcases Int.le_total 0 x with h | h
    · exact Int.mul_nonneg h h
    · exact Int.mul_nonneg_of_nonpos_of_nonpos h h
  have h2 : 0 ≤ y * y := by
    rcases Int.le_total 0 y with h | h
    · exact Int.mul_nonneg h h
    · exact Int.mul_nonneg_of_nonpos_of_nonpos h h
  by_cases h : x * x + y * y = 0
  · have hx : x = 0 := by
      have : x * x = 0 := by omega
      rcases Int.mul_eq_zero.1 this with h | h <;> exact h
    have hy : y = 0 := by
      have : y * y = 0 := by omega
      rcases Int.mul_eq_zero.1 this with h | h <;> exact h
    subst hx hy
    simp
  · left
    simp
    omega

end Go.Hm
