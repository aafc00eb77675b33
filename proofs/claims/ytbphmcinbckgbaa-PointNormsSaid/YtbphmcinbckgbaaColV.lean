/- Columns as records. No program is named here. -/
import Derived.Test.YtbphmcinbckgbaaRow

namespace Go.Hm
open Go Go.RowKit
/-- A column: its name, its type, whether it may have nulls. -/
abbrev ColS := List Nat × Int × Bool
def colV (c : ColS) : List Value := [.string (bstr c.1), .int .i64 c.2.1, .bool c.2.2]
/-- The type of a column, as the walk reads it. -/
theorem Reads.colT {w : World} {B n i : Nat} {A : Option Addr} {l : List ColS} (h : Reads w B 3 A n (recs colV l)) (hi : i < n) :
    ∃ ad, A = some ad ∧ ad.block < B ∧ w.cell? (ad.add (i * 3)) = some (.string (bstr (l.getD i ([], 0, false)).1)) ∧ w.cell? ⟨(ad.add (i * 3)).block, (ad.add (i * 3)).off + 1, none⟩ = some (.int .i64 (l.getD i ([], 0, false)).2.1) ∧ w.cell? ⟨(ad.add (i * 3)).block, (ad.add (i * 3)).off + 2, none⟩ = some (.bool (l.getD i ([], 0, false)).2.2) := by
  obtain ⟨ad, h1, h2, _, h3⟩ := h.rec_ (f := colV) (sz := 3) (fun _ => rfl) ([], 0, false) hi (by omega)
  refine ⟨ad, h1, h2, h3 0 _ rfl, ?_, ?_⟩
  · have := h3 1 _ rfl
    rw [← add_of_add] at this
    exact this
  · have := h3 2 _ rfl
    rw [← add_of_add] at this
    exact this
theorem Reads.lenC {w : World} {B n : Nat} {A : Option Addr} {l : List ColS} (h : Reads w B 3 A n (recs colV l)) : n = l.length := h.lenR (f := colV) (sz := 3) (fun _ => rfl) (by omega)
theorem ccells {w : World} {g : Nat} {ty : TypeId} {x y z : Value} (h : Blk w g ty #[x, y, z]) : w.cell? ⟨g, 0, none⟩ = some x ∧ w.cell? ⟨g, 1, none⟩ = some y ∧ w.cell? ⟨g, 2, none⟩ = some z := by
  have h0 := h.cell 0
  have h1 := h.cell 1
  have h2 := h.cell 2
  simp at h0 h1 h2
  exact ⟨h0, h1, h2⟩

end Go.Hm
