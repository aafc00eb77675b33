/- Columns opened. -/
import Derived.Test.YtcnaameebbcmhaaOpen
import Derived.Test.YtcnaameebbcmhaaRec
import Derived.Test.YtcnaameebbcmhaaColV
set_option maxRecDepth 100000

namespace Go.Proofs.Ytcnaameebbcmhaa
open Go.RowKit Go.Hm Go.WideShapes Go.ChangeShapes

section
variable {H : Type} {enc : TypeId × Value → H} {W : World} {base : Nat} {v : Value} {d : DataW H} {ps : List MemPlace}
theorem open_Cols (hval : Value.okWide Try.prog W .any base 32 v) (h : DataW.Trod enc Try.prog W 0 (fun _ => true) true 32 v d ps) (hlt : ∀ p ∈ ps, p.block < W.heap.size) (hw : ∀ n ∈ d.weights Try.prog 32, n ≤ reachBytes) :
    ∃ A c, ∃ l : List ColS, v = .slice A l.length c ∧ l.length ≤ c ∧ c * 32 ≤ 140737488351232 ∧ Reads W W.heap.size 3 A l.length (recs colV l) ∧ ∀ x ∈ l, (∀ z ∈ x.1, z < 256) ∧ x.1.length ≤ 140737488351232 ∧ -9223372036854775808 ≤ x.2.1 ∧ x.2.1 ≤ 9223372036854775807 := by
  have ht : Try.prog.underlying 32 = some (.slice 27) := by kernel_rfl
  obtain ⟨a0, len, cap, rfl⟩ := okWide_slice ht hval
  have he : Try.prog.underlying 27 = some (.struct (fieldsOf Try.prog 27)) := by kernel_rfl
  obtain ⟨A, c, l, h1, h2, _, h4, h5, h6⟩ := (Held.of h hlt hw).recs (f := colV) (sz := 3) (by_ := 32) (Q := fun x => (∀ z ∈ x.1, z < 256) ∧ x.1.length ≤ 140737488351232 ∧ -9223372036854775808 ≤ x.2.1 ∧ x.2.1 ≤ 9223372036854775807) ([], 0, false) ht (by kernel_rfl) (by kernel_rfl) (fun _ => rfl) (by omega) (fun cs hh => by
    obtain ⟨x0, x1, x2, rfl⟩ := list3 (hh.partLen he (n := 3) (by kernel_rfl))
    have p0 := hh.part he 0 0 1 (ft := 9) (by kernel_rfl) (by kernel_rfl)
    have p1 := hh.part he 1 1 1 (ft := 3) (by kernel_rfl) (by kernel_rfl)
    have p2 := hh.part he 2 2 1 (ft := 4) (by kernel_rfl) (by kernel_rfl)
    obtain ⟨nm, e1, e2, e3⟩ := p0.string (by kernel_rfl)
    obtain ⟨ty, e4, e5, e6⟩ := p1.i64 (by kernel_rfl)
    obtain ⟨nu, e7⟩ := p2.bool (by kernel_rfl)
    simp only [List.drop_succ_cons, List.drop_zero, List.take_succ_cons, List.take_zero, List.cons.injEq, and_true] at e1 e4 e7
    subst e1 e4 e7
    exact ⟨(nm, ty, nu), rfl, e2, e3, e5, e6⟩)
  refine ⟨A, c, l, ?_, h2, by unfold reachBytes at h4; omega, h5, h6⟩
  simpa [Value.cells] using h1
end

end Go.Proofs.Ytcnaameebbcmhaa
