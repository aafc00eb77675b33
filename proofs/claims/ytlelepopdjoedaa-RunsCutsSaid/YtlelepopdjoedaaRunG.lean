/- What hypostyleref10.Decode knows between two pieces: plain lists. -/
import Derived.Test.YtlelepopdjoedaaRunE

namespace Go.Proofs.Ytlelepopdjoedaa
open Go.RowKit Go.Hm
/-- Whose bytes b may be: n words. -/
def Whose (b : List Nat) (n : Nat) (l : List Nat) : Prop := l.length = n ∧ l.length ≤ 65536 ∧ (∀ x ∈ l, x ≤ 18446744073709551615) ∧ encL l = b
/-- Between two pieces: out has come, S is left, whosever bytes b are. -/
def Mid (b : List Nat) (n : Nat) (out : List Nat) (S : St) : Prop := ∀ l, Whose b n l → ∃ p1 p2, pcs l = p1 ++ p2 ∧ out = p1.flatten ∧ S = some (p2.flatMap encP)
theorem mid_start (b : List Nat) (n : Nat) : Mid b n [] (some b) := fun l h => ⟨[], pcs l, rfl, rfl, by rw [← h.2.2.2]; rfl⟩
theorem mid_step {b : List Nat} {n c : Nat} {out r : List Nat} (h : Mid b n out (some (c :: r))) : ∀ l, Whose b n l → ∃ p1 p p3, pcs l = p1 ++ p :: p3 ∧ out = p1.flatten ∧ PieceOk p ∧ (∀ x ∈ p, x ≤ 18446744073709551615) ∧ p.length ≤ n - out.length ∧ c :: r = encP p ++ p3.flatMap encP := by
  intro l hl
  obtain ⟨p1, p2, e1, e2, e3⟩ := h l hl
  injection e3 with e3
  match p2, e1, e3 with
  | [], _, e3 => simp at e3
  | p :: p3, e1, e3 =>
    have hp : p ∈ pcs l := by rw [e1]; simp
    have hf := congrArg List.length (pcs_flat l)
    rw [e1, List.flatten_append, List.flatten_cons, List.length_append, List.length_append, ← e2, hl.1] at hf
    exact ⟨p1, p, p3, e1, e2, pcs_ok l p hp, (wordsOf hl.2.2.1 hp).1, by omega, by rw [e3, List.flatMap_cons]⟩
theorem mid_next {b : List Nat} {n : Nat} {out : List Nat} {S : St} (h : ∀ l, Whose b n l → ∃ p1 p p3, pcs l = p1 ++ p :: p3 ∧ out = p1.flatten ++ p ∧ S = some (p3.flatMap encP)) : Mid b n out S := by
  intro l hl
  obtain ⟨p1, p, p3, e1, e2, e3⟩ := h l hl
  exact ⟨p1 ++ [p], p3, by rw [e1]; simp, by rw [e2]; simp, e3⟩
theorem mid_end {b : List Nat} {n : Nat} {out : List Nat} {S : St} (h : Mid b n out S) (hS : ∀ c r, S ≠ some (c :: r)) : ∀ l, Whose b n l → out = l ∧ S = some [] := by
  intro l hl
  obtain ⟨p1, p2, e1, e2, e3⟩ := h l hl
  match p2, e1, e3 with
  | [], e1, e3 =>
    refine ⟨?_, by simpa using e3⟩
    rw [List.append_nil] at e1
    rw [e2, ← e1, pcs_flat]
  | p :: p3, e1, e3 =>
    have hp := encP_pos p
    rw [List.flatMap_cons] at e3
    match hq : encP p, hp with
    | c :: r, _ =>
      rw [hq] at e3
      exact absurd e3 (hS c _)

end Go.Proofs.Ytlelepopdjoedaa
