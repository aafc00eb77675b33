/- The contract of runs.Decode. -/
import Derived.Test.YtlelepopdjoedaaRunR
import Derived.Test.YtlelepopdjoedaaRunB

namespace Go.Proofs.Ytlelepopdjoedaa
open Go.RowKit Go.Hm
theorem vp_byteR : ∀ (k n : Nat), n ≤ k → ∀ x ∈ vp n, x < 256 := by
  intro k
  induction k with
  | zero =>
    intro n hn x hx
    rw [vp_lt (by omega)] at hx
    simp at hx
    omega
  | succ k ih =>
    intro n hn x hx
    by_cases h : n < 128
    · rw [vp_lt h] at hx
      simp at hx
      omega
    · rw [vp_ge (by omega)] at hx
      rcases List.mem_cons.1 hx with rfl | hx
      · omega
      · exact ih _ (by omega) x hx
theorem encP_byte {p : List Nat} (hw : ∀ x ∈ p, x ≤ 18446744073709551615) : ∀ x ∈ encP p, x < 256 := by
  intro x hx
  have := wid_le p hw
  unfold encP at hx
  split at hx
  · rcases List.mem_append.1 hx with hx | hx
    · exact vp_byteR _ _ (Nat.le_refl _) x hx
    · exact vp_byteR _ _ (Nat.le_refl _) x hx
  · rcases List.mem_append.1 hx with hx | hx
    · exact vp_byteR _ _ (Nat.le_refl _) x hx
    · rcases List.mem_cons.1 hx with rfl | hx
      · omega
      · exact low_lt _ _ x hx
theorem encL_byte {l : List Nat} (hw : ∀ x ∈ l, x ≤ 18446744073709551615) : ∀ x ∈ encL l, x < 256 := by
  intro x hx
  unfold encL at hx
  obtain ⟨p, hp, hx⟩ := List.mem_flatMap.1 hx
  exact encP_byte (wordsOf hw hp).1 x hx
theorem equalR_any {w : World} {A B : Option Addr} {n m c e : Nat} {l k : List Nat} (h : Reads w w.heap.size 1 A n (nums .u8 l)) (hk : Reads w w.heap.size 1 B m (nums .u8 k)) (h8 : ∀ x ∈ l, x < 256) (k8 : ∀ x ∈ k, x < 256) :
    Calls Try.prog 30 #[.slice A n c, .slice B m e] w (ValPost (.bool (decide (l = k))) w) := by
  have BB := Lib.hid (bstr_beq h8 k8)
  have q1 := run_strB (c := c) h
  have q2 := run_strB (c := e) hk
  clear h8 k8 h hk
  go_enter Try.func30, Try.ntmps30
  go_wp2
  go_ret
  exact ⟨by simp [BB.out], rfl⟩
/-- What is read is words, and less is left. -/
theorem rpS_words {most : Nat} {S : St} (hS : S.ok) : ∀ x ∈ (rpS most S).1, x ≤ 18446744073709551615 := by
  intro x hx
  unfold rpS at hx
  dsimp only at hx
  split at hx
  · split at hx
    · rename_i l hl
      unfold unpackO at hl
      split at hl
      · rename_i hg
        injection hl with hl
        subst hl
        have a := unpk_lt _ _ _ x hx
        have b : 2 ^ ((byteS (lenS (2 * (most : Int) + 1) S).2).1 : Int).toNat ≤ 2 ^ 64 := Nat.pow_le_pow_right (by omega) (by omega)
        omega
      · cases hl
    · simp at hx
  · have a := getS_lt (lenS_ok (m := 2 * (most : Int) + 1) hS)
    have := (List.mem_replicate.1 hx).2
    omega
theorem lenS_less {m : Int} {c : Nat} {r : List Nat} (hS : St.ok (some (c :: r))) : ((lenS m (some (c :: r))).2.getD []).length ≤ r.length := by
  rcases lenS_cases m _ hS with e | ⟨N, r', e, -, -, e2⟩
  · rw [e]; simp
  · rw [e2]
    injection e with e
    have a := congrArg List.length e
    have b := vp_pos N
    rw [List.length_append, List.length_cons] at a
    simp
    omega
theorem getS_less {S : St} (hS : S.ok) : ((getS S).2.getD []).length ≤ (S.getD []).length := by
  rcases getS_cases S hS with e | ⟨N, r', rfl, -, e2⟩
  · rw [e]; simp
  · rw [e2]; simp
theorem takeS_less {n : Int} (S : St) : ((takeS n S).2.getD []).length ≤ (S.getD []).length := by
  rcases takeS_cases n S with e | ⟨l, rfl, -, -, e2⟩
  · rw [e]; simp
  · rw [e2]; simp
theorem byteS_less (S : St) : ((byteS S).2.getD []).length ≤ (S.getD []).length := by
  match S with
  | none => simp [byteS]
  | some [] => simp [byteS]
  | some (c :: r) => simp [byteS]
theorem rpS_less {most c : Nat} {r : List Nat} (hS : St.ok (some (c :: r))) : ((rpS most (some (c :: r))).2.getD []).length ≤ r.length := by
  have h1 := lenS_less (m := 2 * (most : Int) + 1) hS
  have h2 := lenS_ok (m := 2 * (most : Int) + 1) hS
  unfold rpS
  dsimp only
  split
  · split
    · have a := byteS_less (lenS (2 * (most : Int) + 1) (some (c :: r))).2
      exact Nat.le_trans (Nat.le_trans (takeS_less _) a) h1
    · simp
  · exact Nat.le_trans (getS_less h2) h1
theorem decS_end {n k : Nat} {out : List Nat} {S : St} (h : ∀ c r, S ≠ some (c :: r)) : decS n k out S = (out, S) := by
  cases k with
  | zero => rfl
  | succ k =>
    match S, h with
    | none, _ => rfl
    | some [], _ => rfl
    | some (c :: r), h => exact absurd rfl (h c r)

end Go.Proofs.Ytlelepopdjoedaa
