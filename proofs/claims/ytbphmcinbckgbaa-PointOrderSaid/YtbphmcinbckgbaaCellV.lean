/- Cells as records. No program is named here. -/
import Derived.Test.YtbphmcinbckgbaaColV

namespace Go.Hm
open Go Go.RowKit
/-- A cell: whether it is null, its number, its text, its point. -/
abbrev CellS := Bool × Int × List Nat × Int × Int
def cellV (c : CellS) : List Value := [.bool c.1, .int .i64 c.2.1, .string (bstr c.2.2.1), .int .i64 c.2.2.2.1, .int .i64 c.2.2.2.2]
/-- Is it a point within the box? -/
def inBox (x y : Int) : Bool := decide (-1048576 ≤ x) && decide (x ≤ 1048576) && decide (-1048576 ≤ y) && decide (y ≤ 1048576)
/-- May the cell stand in a column of this type? -/
def rightB (c : CellS) (t : Int) (nu : Bool) : Bool :=
  if c.1 then nu && decide (c.2.1 = 0 ∧ c.2.2.1 = [] ∧ c.2.2.2.1 = 0 ∧ c.2.2.2.2 = 0)
  else if t = 0 then decide (c.2.2.1 = [] ∧ c.2.2.2.1 = 0 ∧ c.2.2.2.2 = 0)
  else if t = 1 then decide ((c.2.2.1 = [] ∧ c.2.2.2.1 = 0 ∧ c.2.2.2.2 = 0) ∧ (c.2.1 = 0 ∨ c.2.1 = 1))
  else if t = 2 then decide ((c.2.1 = 0 ∧ c.2.2.2.1 = 0 ∧ c.2.2.2.2 = 0) ∧ c.2.2.1.length ≤ 65536)
  else if t = 3 then decide (c.2.1 = 0 ∧ c.2.2.1 = []) && inBox c.2.2.2.1 c.2.2.2.2
  else false
theorem cells5 {w : World} {g : Nat} {ty : TypeId} {a b c d e : Value} (h : Blk w g ty #[a, b, c, d, e]) : w.cell? ⟨g, 0, none⟩ = some a ∧ w.cell? ⟨g, 1, none⟩ = some b ∧ w.cell? ⟨g, 2, none⟩ = some c ∧ w.cell? ⟨g, 3, none⟩ = some d ∧ w.cell? ⟨g, 4, none⟩ = some e := by
  have h0 := h.cell 0
  have h1 := h.cell 1
  have h2 := h.cell 2
  have h3 := h.cell 3
  have h4 := h.cell 4
  simp at h0 h1 h2 h3 h4
  exact ⟨h0, h1, h2, h3, h4⟩
theorem cells2 {w : World} {g : Nat} {ty : TypeId} {a b : Value} (h : Blk w g ty #[a, b]) : w.cell? ⟨g, 0, none⟩ = some a ∧ w.cell? ⟨g, 1, none⟩ = some b := by
  have h0 := h.cell 0
  have h1 := h.cell 1
  simp at h0 h1
  exact ⟨h0, h1⟩
/-- A cell of many, as the walk reads it. -/
theorem Reads.cell5 {w : World} {B n i : Nat} {A : Option Addr} {l : List CellS} (h : Reads w B 5 A n (recs cellV l)) (hi : i < n) :
    ∃ ad, A = some ad ∧ ad.block < B ∧ w.cell? (ad.add (i * 5)) = some (.bool (l.getD i (false, 0, [], 0, 0)).1) ∧ w.cell? ⟨(ad.add (i * 5)).block, (ad.add (i * 5)).off + 1, none⟩ = some (.int .i64 (l.getD i (false, 0, [], 0, 0)).2.1)
      ∧ w.cell? ⟨(ad.add (i * 5)).block, (ad.add (i * 5)).off + 2, none⟩ = some (.string (bstr (l.getD i (false, 0, [], 0, 0)).2.2.1)) ∧ w.cell? ⟨(ad.add (i * 5)).block, (ad.add (i * 5)).off + 3, none⟩ = some (.int .i64 (l.getD i (false, 0, [], 0, 0)).2.2.2.1)
      ∧ w.cell? ⟨(ad.add (i * 5)).block, (ad.add (i * 5)).off + 4, none⟩ = some (.int .i64 (l.getD i (false, 0, [], 0, 0)).2.2.2.2) := by
  obtain ⟨ad, h1, h2, _, h3⟩ := h.rec_ (f := cellV) (sz := 5) (fun _ => rfl) (false, 0, [], 0, 0) hi (by omega)
  refine ⟨ad, h1, h2, h3 0 _ rfl, ?_, ?_, ?_, ?_⟩
  · have := h3 1 _ rfl
    rw [← add_of_add] at this
    exact this
  · have := h3 2 _ rfl
    rw [← add_of_add] at this
    exact this
  · have := h3 3 _ rfl
    rw [← add_of_add] at this
    exact this
  · have := h3 4 _ rfl
    rw [← add_of_add] at this
    exact this
theorem Reads.lenCell {w : World} {B n : Nat} {A : Option Addr} {l : List CellS} (h : Reads w B 5 A n (recs cellV l)) : n = l.length := h.lenR (f := cellV) (sz := 5) (fun _ => rfl) (by omega)

end Go.Hm
