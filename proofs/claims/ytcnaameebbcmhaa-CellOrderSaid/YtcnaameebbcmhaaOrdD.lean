/- Plain facts of the order of cells. -/
import Derived.Test.YtcnaameebbcmhaaCellD

namespace Go.Hm
open Go Go.RowKit
theorem cmpI_le {x y : Int} : cmpI x y ≤ 0 ↔ x ≤ y := by
  unfold cmpI
  split
  · omega
  · split <;> omega
theorem cmpI_zero {x y : Int} : cmpI x y = 0 ↔ x = y := by
  unfold cmpI
  split
  · omega
  · split <;> omega
theorem cmpI_neg (x y : Int) : cmpI y x = -cmpI x y := by
  unfold cmpI
  by_cases h1 : x < y
  · rw [if_pos h1, if_neg (by omega), if_pos h1]; rfl
  · by_cases h2 : y < x
    · rw [if_pos h2, if_neg h1, if_pos h2]
    · rw [if_neg h2, if_neg h1, if_neg h1, if_neg h2]; rfl
theorem orI3 (a b c : Int) : orI [a, b, c] = if a = 0 then (if b = 0 then c else b) else a := by
  simp only [orI]
  by_cases h1 : a = 0 <;> by_cases h2 : b = 0 <;> by_cases h3 : c = 0 <;> simp [h1, h2, h3]
theorem cmpP_neg (x y u v : Int) : cmpP u v x y = -cmpP x y u v := by
  unfold cmpP
  rw [cmpI_neg (x * x + y * y), cmpI_neg x, cmpI_neg y, orI3, orI3]
  by_cases h1 : cmpI (x * x + y * y) (u * u + v * v) = 0
  · rw [if_pos (by omega), if_pos h1]
    by_cases h2 : cmpI x u = 0
    · rw [if_pos (by omega), if_pos h2]
    · rw [if_neg (by omega), if_neg h2]
  · rw [if_neg (by omega), if_neg h1]
theorem cmpP_zero {x y u v : Int} : cmpP x y u v = 0 ↔ x = u ∧ y = v := by
  unfold cmpP
  rw [orI3]
  constructor
  · intro h
    split at h
    · split at h
      · rename_i h1 h2
        exact ⟨cmpI_zero.1 h2, cmpI_zero.1 h⟩
      · rename_i h1 h2
        exact absurd h h2
    · rename_i h1
      exact absurd h h1
  · rintro ⟨rfl, rfl⟩
    simp [cmpI_self]
theorem cmpP_le {x y u v : Int} : cmpP x y u v ≤ 0 ↔ x * x + y * y < u * u + v * v ∨ (x * x + y * y = u * u + v * v ∧ (x < u ∨ (x = u ∧ y ≤ v))) := by
  unfold cmpP
  rw [orI3]
  generalize x * x + y * y = n
  generalize u * u + v * v = m
  have a1 := @cmpI_le n m
  have a2 := @cmpI_zero n m
  have b1 := @cmpI_le x u
  have b2 := @cmpI_zero x u
  have c1 := @cmpI_le y v
  split
  · split
    · omega
    · omega
  · omega
theorem cb_neg : ∀ a b : List UInt8, Lib.compareBytes b a = -Lib.compareBytes a b
  | [], [] => by simp [Lib.compareBytes]
  | [], _ :: _ => by simp [Lib.compareBytes]
  | _ :: _, [] => by simp [Lib.compareBytes]
  | x :: a, y :: b => by
    have ih := cb_neg a b
    unfold Lib.compareBytes
    by_cases h1 : x < y
    · have h2 : ¬ y < x := fun h => UInt8.lt_irrefl _ (UInt8.lt_trans h h1)
      rw [if_neg h2, if_pos h1, if_pos h1]; rfl
    · by_cases h2 : y < x
      · rw [if_pos h2, if_neg h1, if_pos h2]
      · rw [if_neg h2, if_neg h1, if_neg h1, if_neg h2, ih]
theorem cb_zero : ∀ a b : List UInt8, Lib.compareBytes a b = 0 ↔ a = b
  | [], [] => by simp [Lib.compareBytes]
  | [], _ :: _ => by simp [Lib.compareBytes]
  | _ :: _, [] => by simp [Lib.compareBytes]
  | x :: a, y :: b => by
    have ih := cb_zero a b
    unfold Lib.compareBytes
    by_cases h1 : x < y
    · have hne : x ≠ y := by rintro rfl; exact UInt8.lt_irrefl _ h1
      rw [if_pos h1]
      simp [hne]
    · by_cases h2 : y < x
      · have hne : x ≠ y := by rintro rfl; exact h1 h2
        rw [if_neg h1, if_pos h2]
        simp [hne]
      · have he : x = y := UInt8.le_antisymm (UInt8.not_lt.1 h2) (UInt8.not_lt.1 h1)
        subst he
        rw [if_neg h1, if_neg h1, ih]
        simp
theorem cb_trans : ∀ a b c : List UInt8, Lib.compareBytes a b ≤ 0 → Lib.compareBytes b c ≤ 0 → Lib.compareBytes a c ≤ 0
  | [], b, [] => by simp [Lib.compareBytes]
  | [], b, _ :: _ => by simp [Lib.compareBytes]
  | _ :: _, [], c => by simp [Lib.compareBytes]
  | _ :: _, _ :: _, [] => by simp [Lib.compareBytes]
  | x :: a, y :: b, z :: c => by
    have ih := cb_trans a b c
    unfold Lib.compareBytes
    intro h1 h2
    by_cases xz : x < z
    · rw [if_pos xz]; decide
    · rw [if_neg xz]
      by_cases xy : x < y
      · have yz : ¬ y < z := fun h => xz (UInt8.lt_trans xy h)
        rw [if_neg yz] at h2
        by_cases zy : z < y
        · rw [if_pos zy] at h2; omega
        · have he : y = z := UInt8.le_antisymm (UInt8.not_lt.1 zy) (UInt8.not_lt.1 yz)
          exact absurd (he ▸ xy) xz
      · rw [if_neg xy] at h1
        by_cases yx : y < x
        · rw [if_pos yx] at h1; omega
        · rw [if_neg yx] at h1
          have he : x = y := UInt8.le_antisymm (UInt8.not_lt.1 yx) (UInt8.not_lt.1 xy)
          subst he
          rw [if_neg xz] at h2
          by_cases zx : z < x
          · rw [if_pos zx] at h2; omega
          · rw [if_neg zx] at h2 ⊢
            exact ih h1 h2
theorem cmpN_neg {a b : Bool} (h : (a || b) = true) : cmpN b a = -cmpN a b := by
  cases a <;> cases b <;> simp_all [cmpN]
theorem cmpD_neg (t : Int) (a b : CellS) : cmpD t b a = -cmpD t a b := by
  unfold cmpD
  by_cases h : (a.1 || b.1) = true
  · have h' : (b.1 || a.1) = true := by rw [Bool.or_comm]; exact h
    rw [if_pos h', if_pos h, cmpN_neg h]
  · have h' : ¬ (b.1 || a.1) = true := by rw [Bool.or_comm]; exact h
    rw [if_neg h', if_neg h, cmpI_neg a.2.1, cmpP_neg a.2.2.2.1, cmpT, cmpT, cb_neg]
    split
    · rfl
    · split
      · rfl
      · split
        · rfl
        · rfl
theorem map_u8_inj : ∀ {a b : List Nat}, (∀ z ∈ a, z < 256) → (∀ z ∈ b, z < 256) → a.map UInt8.ofNat = b.map UInt8.ofNat → a = b
  | [], [], _, _, _ => rfl
  | [], _ :: _, _, _, h => by simp at h
  | _ :: _, [], _, _, h => by simp at h
  | x :: a, y :: b, ha, hb, h => by
    rw [List.map_cons, List.map_cons, List.cons.injEq] at h
    have e1 : x = y := by
      have := congrArg UInt8.toNat h.1
      rw [UInt8.toNat_ofNat', UInt8.toNat_ofNat', Nat.mod_eq_of_lt (ha x (by simp)), Nat.mod_eq_of_lt (hb y (by simp))] at this
      exact this
    rw [e1, map_u8_inj (fun z hz => ha z (by simp [hz])) (fun z hz => hb z (by simp [hz])) h.2]
theorem cmpD_zero {t : Int} {nu : Bool} {a b : CellS} (ha : rightB a t nu = true) (hb : rightB b t nu = true) (fa : ∀ z ∈ a.2.2.1, z < 256) (fb : ∀ z ∈ b.2.2.1, z < 256) : cmpD t a b = 0 ↔ a = b := by
  obtain ⟨na, ia, sa, xa, ya⟩ := a
  obtain ⟨nb, ib, sb, xb, yb⟩ := b
  simp only at fa fb
  have ht : cmpT sa sb = 0 ↔ sa = sb := by
    rw [cmpT, cb_zero]
    exact ⟨map_u8_inj fa fb, fun h => by rw [h]⟩
  unfold rightB at ha hb
  unfold cmpD
  cases na <;> cases nb
  · simp only [Bool.or_self, Bool.false_eq_true, if_false] at ha hb ⊢
    by_cases h0 : t = 0
    · subst h0
      simp at ha hb
      simp [cmpI_zero, ha, hb]
    · by_cases h1 : t = 1
      · subst h1
        simp at ha hb
        simp [cmpI_zero, ha, hb]
      · by_cases h2 : t = 2
        · subst h2
          simp at ha hb
          simp [ht, ha, hb]
        · by_cases h3 : t = 3
          · subst h3
            simp at ha hb
            simp [cmpP_zero, ha, hb]
          · simp [h0, h1, h2, h3] at ha
  · simp [cmpN]
  · simp [cmpN]
  · simp at ha hb
    simp [cmpN, ha, hb]
theorem cmpD_null {t : Int} {a b : CellS} (h : a.1 = true) : cmpD t a b ≤ 0 := by
  unfold cmpD
  rw [if_pos (by simp [h]), h]
  cases b.1 <;> simp [cmpN]
theorem cmpD_trans {t : Int} {a b c : CellS} (h1 : cmpD t a b ≤ 0) (h2 : cmpD t b c ≤ 0) : cmpD t a c ≤ 0 := by
  obtain ⟨na, ia, sa, xa, ya⟩ := a
  obtain ⟨nb, ib, sb, xb, yb⟩ := b
  obtain ⟨nc, ic, sc, xc, yc⟩ := c
  unfold cmpD at *
  cases na
  · cases nb
    · cases nc
      · simp only [Bool.or_self, Bool.false_eq_true, if_false] at h1 h2 ⊢
        split
        · rename_i ht
          rw [if_pos ht, cmpI_le] at h1 h2
          rw [cmpI_le]
          omega
        · rename_i ht
          rw [if_neg ht] at h1 h2
          split
          · rename_i ht
            rw [if_pos ht, cmpT] at h1 h2
            exact cb_trans _ _ _ h1 h2
          · rename_i ht
            rw [if_neg ht] at h1 h2
            split
            · rename_i ht
              rw [if_pos ht, cmpP_le] at h1 h2
              rw [cmpP_le]
              generalize xa * xa + ya * ya = n1 at *
              generalize xb * xb + yb * yb = n2 at *
              generalize xc * xc + yc * yc = n3 at *
              omega
            · omega
      · simp [cmpN] at h2
    · simp [cmpN] at h1
  · cases nc <;> simp [cmpN]
theorem right_near {t : Int} {nu : Bool} {a : CellS} (h : rightB a t nu = true) : (-1048576 ≤ a.2.2.2.1 ∧ a.2.2.2.1 ≤ 1048576) ∧ -1048576 ≤ a.2.2.2.2 ∧ a.2.2.2.2 ≤ 1048576 := by
  obtain ⟨na, ia, sa, xa, ya⟩ := a
  unfold rightB at h
  show (-1048576 ≤ xa ∧ xa ≤ 1048576) ∧ -1048576 ≤ ya ∧ ya ≤ 1048576
  cases na
  · simp only [Bool.false_eq_true, if_false] at h
    by_cases h0 : t = 0
    · subst h0; simp at h; omega
    · by_cases h1 : t = 1
      · subst h1; simp at h; omega
      · by_cases h2 : t = 2
        · subst h2; simp at h; omega
        · by_cases h3 : t = 3
          · subst h3; simp [inBox] at h; omega
          · simp [h0, h1, h2, h3] at h
  · simp at h; omega

end Go.Hm
