/- What was packed is unpacked, and the other way round: plain lists. -/
import Derived.Test.YtlelepopdjoedaaUnpack

namespace Go.Proofs.Ytlelepopdjoedaa
open Go.RowKit Go.Hm
theorem packO_some (L : List Nat) (x : Nat) (hx : x ≤ 64) (hl : L.length ≤ 65536) (hw : wid L ≤ x) : packO L (x : Int) = some (low (pk x L) ((x * L.length + 7) / 8)) := by
  unfold packO
  rw [if_pos ⟨by omega, by omega, hl, by omega⟩, Int.toNat_natCast]
theorem unpack_pack (L : List Nat) (x : Nat) (hx : x ≤ 64) (hl : L.length ≤ 65536) (hw : wid L ≤ x) (hL : ∀ x ∈ L, x ≤ 18446744073709551615) : unpackO (low (pk x L) ((x * L.length + 7) / 8)) (x : Int) (L.length : Int) = some L := by
  have h2 := (wid_iff L x hx hL).1 hw
  have h1 := pk_lt x L h2
  have h3 : num (low (pk x L) ((x * L.length + 7) / 8)) = pk x L := by
    rw [num_low, p256, Nat.mod_eq_of_lt]
    exact Nat.lt_of_lt_of_le h1 (Nat.pow_le_pow_right (by omega) (by omega))
  unfold unpackO
  rw [if_pos ⟨by omega, by omega, by omega, by omega, by simp only [Int.toNat_natCast, low_len], by simp only [Int.toNat_natCast, h3]; exact h1⟩]
  simp only [Int.toNat_natCast, h3]
  rw [unpk_pk x L h2 _ (Nat.mod_eq_of_lt h1)]
theorem pack_unpack {b l : List Nat} {x n : Int} (h8 : ∀ x ∈ b, x < 256) (h : unpackO b x n = some l) : packO l x = some b ∧ (l.length : Int) = n ∧ (wid l : Int) ≤ x ∧ (∀ y ∈ l, y ≤ 18446744073709551615) ∧ l.length ≤ 65536 := by
  unfold unpackO at h
  split at h
  · rename_i hg
    obtain ⟨h1, h2, h3, h4, h5, h6⟩ := hg
    injection h with h
    obtain ⟨x, rfl⟩ := Int.eq_ofNat_of_zero_le h1
    obtain ⟨n, rfl⟩ := Int.eq_ofNat_of_zero_le h3
    simp only [Int.toNat_natCast] at h5 h6 h
    have hx : x ≤ 64 := by omega
    have hlt : ∀ y ∈ l, y < 2 ^ x := by rw [← h]; exact unpk_lt _ _ _
    have hll : l.length = n := by rw [← h, unpk_len]
    have hp : 2 ^ x ≤ 2 ^ 64 := Nat.pow_le_pow_right (by omega) hx
    have hb : ∀ y ∈ l, y ≤ 18446744073709551615 := fun y hy => by have := hlt y hy; omega
    have hw : wid l ≤ x := (wid_iff l x hx hb).2 hlt
    refine ⟨?_, by omega, by omega, hb, by omega⟩
    rw [packO_some l x hx (by omega) hw, hll, ← h5, ← h, pk_unpk, Nat.mod_eq_of_lt h6, low_num b h8]
  · cases h

end Go.Proofs.Ytlelepopdjoedaa
