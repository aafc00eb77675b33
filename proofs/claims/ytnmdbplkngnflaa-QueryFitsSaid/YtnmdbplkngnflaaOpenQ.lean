/- Queries and footers opened. -/
import Derived.Test.YtnmdbplkngnflaaOpen
import Derived.Test.YtnmdbplkngnflaaRec
import Derived.Test.YtnmdbplkngnflaaQry
import Derived.Test.YtnmdbplkngnflaaQryF
set_option maxRecDepth 100000

namespace Go.Proofs.Ytnmdbplkngnflaa
open Go.RowKit Go.Hm Go.WideShapes Go.ChangeShapes

section
variable {H : Type} {enc : TypeId × Value → H} {W : World} {base : Nat} {v : Value} {d : DataW H} {ps : List MemPlace}
theorem open_Q (hval : Value.okWide Try.prog W .any base 24 v) (h : DataW.Trod enc Try.prog W 0 (fun _ => true) true 24 v d ps) (hlt : ∀ p ∈ ps, p.block < W.heap.size) (hw : ∀ n ∈ d.weights Try.prog 24, n ≤ reachBytes) :
    ∃ A c, ∃ l : List Int, ∃ f t : Int, v = Qv A l.length c f t ∧ l.length ≤ c ∧ c * 8 ≤ 140737488351232 ∧ Reads W W.heap.size 1 A l.length (ints .i64 l) ∧ ∀ x ∈ l, -9223372036854775808 ≤ x ∧ x ≤ 9223372036854775807 := by
  have ht : Try.prog.underlying 24 = some (.struct (fieldsOf Try.prog 24)) := by kernel_rfl
  obtain ⟨⟨cs⟩, rfl, hsz⟩ := okWide_struct ht hval
  have hh := Held.of h hlt hw
  simp only [Value.cells] at hh
  obtain ⟨x0, x1, x2, rfl⟩ := list3 (hh.partLen ht (n := 3) (by kernel_rfl))
  have p0 := hh.part ht 0 0 1 (ft := 22) (by kernel_rfl) (by kernel_rfl)
  have p1 := hh.part ht 1 1 1 (ft := 3) (by kernel_rfl) (by kernel_rfl)
  have p2 := hh.part ht 2 2 1 (ft := 3) (by kernel_rfl) (by kernel_rfl)
  obtain ⟨A, c, l, h1, h2, h4, h5, h6⟩ := p0.ints_ (te := 3) (by kernel_rfl) (by kernel_rfl) (by kernel_rfl) (by kernel_rfl)
  obtain ⟨f, h7, _⟩ := p1.i64 (by kernel_rfl)
  obtain ⟨g, h8, _⟩ := p2.i64 (by kernel_rfl)
  simp only [List.drop_succ_cons, List.drop_zero, List.take_succ_cons, List.take_zero, List.cons.injEq, and_true] at h1 h7 h8
  subst h1 h7 h8
  exact ⟨A, c, l, f, g, rfl, h2, h4, h5, h6⟩

theorem open_F (hval : Value.okWide Try.prog W .any base 38 v) (h : DataW.Trod enc Try.prog W 0 (fun _ => true) true 38 v d ps) (hlt : ∀ p ∈ ps, p.block < W.heap.size) (hw : ∀ n ∈ d.weights Try.prog 38, n ≤ reachBytes) :
    ∃ A n c rows A2 n2 c2, v = Fv A n c rows A2 n2 c2 ∧ n ≤ c ∧ c ≤ maxLen := by
  have ht : Try.prog.underlying 38 = some (.struct (fieldsOf Try.prog 38)) := by kernel_rfl
  obtain ⟨⟨cs⟩, rfl, hsz⟩ := okWide_struct ht hval
  have hh := Held.of h hlt hw
  simp only [Value.cells] at hh
  obtain ⟨x0, x1, x2, rfl⟩ := list3 (hh.partLen ht (n := 3) (by kernel_rfl))
  have p0 := hh.part ht 0 0 1 (ft := 25) (by kernel_rfl) (by kernel_rfl)
  have p1 := hh.part ht 1 1 1 (ft := 3) (by kernel_rfl) (by kernel_rfl)
  have p2 := hh.part ht 2 2 1 (ft := 36) (by kernel_rfl) (by kernel_rfl)
  obtain ⟨A, n, c, h1, h2, h3⟩ := p0.head (te := 46) (by kernel_rfl)
  obtain ⟨f, h7, _⟩ := p1.i64 (by kernel_rfl)
  obtain ⟨A2, n2, c2, h8, _⟩ := p2.head (te := 96) (by kernel_rfl)
  simp only [List.drop_succ_cons, List.drop_zero, List.take_succ_cons, List.take_zero, List.cons.injEq, and_true] at h1 h7 h8
  subst h1 h7 h8
  exact ⟨A, n, c, f, A2, n2, c2, rfl, h2, h3⟩
end

end Go.Proofs.Ytnmdbplkngnflaa
