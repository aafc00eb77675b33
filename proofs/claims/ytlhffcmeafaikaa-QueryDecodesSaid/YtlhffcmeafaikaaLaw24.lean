/- What layer 24's laws share. -/
import Derived.Test.YtlhffcmeafaikaaSmallQ

namespace Go.Proofs.Ytlhffcmeafaikaa
open Go.RowKit Go.Hm
abbrev Q3 := List Int × Int × Int
theorem OptQ.u {o : Option Q3} {w w' : World} {e : Ending} (h : OptQ o w e w') :
    ∃ A n c, e = .returned (.tuple #[Qv A n c (o.getD ([], 0, 0)).2.1 (o.getD ([], 0, 0)).2.2, .bool o.isSome]) ∧ Own w' w.heap.size 3 (.slice A n c) (ints .i64 (o.getD ([], 0, 0)).1) ∧ New w w' := by
  cases o with
  | none =>
    obtain ⟨rfl, h2⟩ := h
    exact ⟨none, 0, 0, rfl, Own.nil_, h2⟩
  | some q =>
    obtain ⟨l, f, t⟩ := q
    exact h
theorem qcells {w : World} {g : Nat} {ty : TypeId} {x y z : Value} (h : Blk w g ty #[x, y, z]) : w.cell? ⟨g, 0, none⟩ = some x ∧ w.cell? ⟨g, 1, none⟩ = some y ∧ w.cell? ⟨g, 2, none⟩ = some z := by
  have h0 := h.cell 0
  have h1 := h.cell 1
  have h2 := h.cell 2
  simp at h0 h1 h2
  exact ⟨h0, h1, h2⟩
theorem decQ_len {b : List Nat} (h8 : ∀ x ∈ b, x < 256) : ((decQ b).getD ([], 0, 0)).1.length ≤ 64 := by
  cases h : decQ b with
  | none => simp
  | some q =>
    obtain ⟨l, f, t⟩ := q
    have h2 := (decQ_iff h8).1 h
    unfold encQ at h2
    split at h2
    · rename_i hm
      exact okCols_len ((qmay_iff l f t).1 hm).2
    · cases h2

end Go.Proofs.Ytlhffcmeafaikaa
