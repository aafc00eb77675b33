/- Cells opened. -/
import Derived.Test.YtcnaameebbcmhaaOpen
import Derived.Test.YtcnaameebbcmhaaRec
import Derived.Test.YtcnaameebbcmhaaCellV
set_option maxRecDepth 100000

namespace Go.Hm
open Go Go.RowKit
/-- A column's cells as they lie: where, how many may, and what. -/
abbrev ColD := Option Addr × Nat × List CellS
def dataV (d : ColD) : List Value := [.slice d.1 d.2.2.length d.2.1]
theorem list5 {α : Type} {l : List α} (h : l.length = 5) : ∃ a b c d e, l = [a, b, c, d, e] := by
  match l, h with
  | [a, b, c, d, e], _ => exact ⟨a, b, c, d, e, rfl⟩
theorem list2 {α : Type} {l : List α} (h : l.length = 2) : ∃ a b, l = [a, b] := by
  match l, h with
  | [a, b], _ => exact ⟨a, b, rfl⟩
/-- A cell that may come in. -/
def CellFine (c : CellS) : Prop := (c.2.2.1.length ≤ 140737488351232 ∧ ∀ z ∈ c.2.2.1, z < 256) ∧ (-9223372036854775808 ≤ c.2.1 ∧ c.2.1 ≤ 9223372036854775807) ∧ (-9223372036854775808 ≤ c.2.2.2.1 ∧ c.2.2.2.1 ≤ 9223372036854775807) ∧ (-9223372036854775808 ≤ c.2.2.2.2 ∧ c.2.2.2.2 ≤ 9223372036854775807)

end Go.Hm

namespace Go.Proofs.Ytcnaameebbcmhaa
open Go.RowKit Go.Hm Go.WideShapes Go.ChangeShapes

section
variable {H : Type} {enc : TypeId × Value → H} {W : World} {base : Nat} {v : Value} {d : DataW H} {ps : List MemPlace}
theorem held_cell {cs : List Value} (h : Held enc Try.prog W 25 cs) : ∃ c : CellS, cs = cellV c ∧ CellFine c := by
  have ht : Try.prog.underlying 25 = some (.struct (fieldsOf Try.prog 25)) := by kernel_rfl
  have ht2 : Try.prog.underlying 23 = some (.struct (fieldsOf Try.prog 23)) := by kernel_rfl
  obtain ⟨x0, x1, x2, x3, x4, rfl⟩ := list5 (h.partLen ht (n := 5) (by kernel_rfl))
  have p0 := h.part ht 0 0 1 (ft := 4) (by kernel_rfl) (by kernel_rfl)
  have p1 := h.part ht 1 1 1 (ft := 3) (by kernel_rfl) (by kernel_rfl)
  have p2 := h.part ht 2 2 1 (ft := 9) (by kernel_rfl) (by kernel_rfl)
  have p3 := h.part ht 3 3 2 (ft := 23) (by kernel_rfl) (by kernel_rfl)
  have q0 := p3.part ht2 0 0 1 (ft := 3) (by kernel_rfl) (by kernel_rfl)
  have q1 := p3.part ht2 1 1 1 (ft := 3) (by kernel_rfl) (by kernel_rfl)
  obtain ⟨b, e0⟩ := p0.bool (by kernel_rfl)
  obtain ⟨n, e1, n1, n2⟩ := p1.i64 (by kernel_rfl)
  obtain ⟨s, e2, s1, s2⟩ := p2.string (by kernel_rfl)
  obtain ⟨x, e3, g1, g2⟩ := q0.i64 (by kernel_rfl)
  obtain ⟨y, e4, g3, g4⟩ := q1.i64 (by kernel_rfl)
  simp only [List.drop_succ_cons, List.drop_zero, List.take_succ_cons, List.take_zero, List.cons.injEq, and_true] at e0 e1 e2 e3 e4
  subst e0 e1 e2 e3 e4
  exact ⟨(b, n, s, x, y), rfl, ⟨s2, s1⟩, ⟨n1, n2⟩, ⟨g1, g2⟩, g3, g4⟩
theorem open_C (hval : Value.okWide Try.prog W .any base 25 v) (h : DataW.Trod enc Try.prog W 0 (fun _ => true) true 25 v d ps) (hlt : ∀ p ∈ ps, p.block < W.heap.size) (hw : ∀ n ∈ d.weights Try.prog 25, n ≤ reachBytes) :
    ∃ c : CellS, v = .agg (cellV c).toArray ∧ CellFine c := by
  have ht : Try.prog.underlying 25 = some (.struct (fieldsOf Try.prog 25)) := by kernel_rfl
  obtain ⟨⟨cs⟩, rfl, hsz⟩ := okWide_struct ht hval
  have hh := Held.of h hlt hw
  simp only [Value.cells] at hh
  obtain ⟨c, rfl, hc⟩ := held_cell hh
  exact ⟨c, rfl, hc⟩
theorem held_cells {cs : List Value} (h : Held enc Try.prog W 44 cs) : ∃ x : ColD, cs = dataV x ∧ (Reads W W.heap.size 5 x.1 x.2.2.length (recs cellV x.2.2) ∧ (∀ y ∈ x.2.2, CellFine y) ∧ x.2.2.length ≤ x.2.1 ∧ x.2.1 ≤ 9223372036854775807 ∧ (x.1 = none → x.2.1 = 0)) := by
  have ht : Try.prog.underlying 44 = some (.slice 25) := by kernel_rfl
  obtain ⟨A, c, l, h1, h2, _, h4, h5, h6⟩ := h.recs (f := cellV) (sz := 5) (by_ := 48) (Q := CellFine) (false, 0, [], 0, 0) ht (by kernel_rfl) (by kernel_rfl) (fun _ => rfl) (by omega) (fun cs hh => held_cell hh)
  subst h1
  refine ⟨(A, c, l), rfl, h5, h6, h2, (show c ≤ 9223372036854775807 by unfold reachBytes at h4; omega), ?_⟩
  rcases h.slice ht with e | ⟨a, len, cap, e, _⟩
  · simp only [List.cons.injEq, Value.slice.injEq, and_true] at e
    exact fun _ => e.2.2
  · simp only [List.cons.injEq, Value.slice.injEq, and_true] at e
    intro hh
    rw [e.1] at hh
    cases hh
theorem open_Cells (hval : Value.okWide Try.prog W .any base 44 v) (h : DataW.Trod enc Try.prog W 0 (fun _ => true) true 44 v d ps) (hlt : ∀ p ∈ ps, p.block < W.heap.size) (hw : ∀ n ∈ d.weights Try.prog 44, n ≤ reachBytes) :
    ∃ (A : Option Addr) (c : Nat) (l : List CellS), v = .slice A l.length c ∧ Reads W W.heap.size 5 A l.length (recs cellV l) ∧ (∀ y ∈ l, CellFine y) ∧ l.length ≤ c ∧ l.length ≤ 2932031007317 := by
  have ht : Try.prog.underlying 44 = some (.slice 25) := by kernel_rfl
  obtain ⟨a0, len, cap, rfl⟩ := okWide_slice ht hval
  obtain ⟨A, c, l, h1, h2, _, h4, h5, h6⟩ := (Held.of h hlt hw).recs (f := cellV) (sz := 5) (by_ := 48) (Q := CellFine) (false, 0, [], 0, 0) ht (by kernel_rfl) (by kernel_rfl) (fun _ => rfl) (by omega) (fun cs hh => held_cell hh)
  simp only [Value.cells, List.cons.injEq, and_true] at h1
  rw [h1]
  exact ⟨A, c, l, rfl, h5, h6, h2, by unfold reachBytes at h4; omega⟩
end

end Go.Proofs.Ytcnaameebbcmhaa
