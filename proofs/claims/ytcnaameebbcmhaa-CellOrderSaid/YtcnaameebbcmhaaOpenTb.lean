/- Cells and tables opened. -/
import Derived.Test.YtcnaameebbcmhaaOpenCo
import Derived.Test.YtcnaameebbcmhaaOpenCl
import Derived.Test.YtcnaameebbcmhaaCellC
set_option maxRecDepth 100000

namespace Go.Hm
/-- A table lies in the world. -/
structure TabIn (w : World) (Ac : Option Addr) (cc : Nat) (L : List ColS) (Ad : Option Addr) (D : List ColD) : Prop where
  cols : Reads w w.heap.size 3 Ac L.length (recs colV L)
  fine : ∀ x ∈ L, (∀ z ∈ x.1, z < 256) ∧ x.1.length ≤ 140737488351232
  cap : L.length ≤ cc
  few : L.length ≤ 4611686018427387903
  data : Reads w w.heap.size 1 Ad D.length (recs dataV D)
  few2 : D.length ≤ 4611686018427387903
  within : DataIn w w.heap.size D
theorem TabIn.later {w w' : World} {Ac : Option Addr} {cc : Nat} {L : List ColS} {Ad : Option Addr} {D : List ColD} (h : TabIn w Ac cc L Ad D) (hb : New w w') : TabIn w' Ac cc L Ad D :=
  ⟨Reads.later h.cols hb, h.fine, h.cap, h.few, Reads.later h.data hb, h.few2, h.within.later hb⟩

end Go.Hm

namespace Go.Proofs.Ytcnaameebbcmhaa
open Go.RowKit Go.Hm Go.WideShapes Go.ChangeShapes

section
variable {H : Type} {enc : TypeId × Value → H} {W : World} {base : Nat} {v : Value} {d : DataW H} {ps : List MemPlace}
theorem open_Col (hval : Value.okWide Try.prog W .any base 27 v) (h : DataW.Trod enc Try.prog W 0 (fun _ => true) true 27 v d ps) (hlt : ∀ p ∈ ps, p.block < W.heap.size) (hw : ∀ n ∈ d.weights Try.prog 27, n ≤ reachBytes) :
    ∃ c : ColS, v = .agg (colV c).toArray ∧ (∀ z ∈ c.1, z < 256) ∧ c.1.length ≤ 140737488351232 ∧ -9223372036854775808 ≤ c.2.1 ∧ c.2.1 ≤ 9223372036854775807 := by
  have ht : Try.prog.underlying 27 = some (.struct (fieldsOf Try.prog 27)) := by kernel_rfl
  obtain ⟨⟨cs⟩, rfl, hsz⟩ := okWide_struct ht hval
  have hh := Held.of h hlt hw
  simp only [Value.cells] at hh
  obtain ⟨x0, x1, x2, rfl⟩ := list3 (hh.partLen ht (n := 3) (by kernel_rfl))
  have p0 := hh.part ht 0 0 1 (ft := 9) (by kernel_rfl) (by kernel_rfl)
  have p1 := hh.part ht 1 1 1 (ft := 3) (by kernel_rfl) (by kernel_rfl)
  have p2 := hh.part ht 2 2 1 (ft := 4) (by kernel_rfl) (by kernel_rfl)
  obtain ⟨nm, e1, e2, e3⟩ := p0.string (by kernel_rfl)
  obtain ⟨ty, e4, e5, e6⟩ := p1.i64 (by kernel_rfl)
  obtain ⟨nu, e7⟩ := p2.bool (by kernel_rfl)
  simp only [List.drop_succ_cons, List.drop_zero, List.take_succ_cons, List.take_zero, List.cons.injEq, and_true] at e1 e4 e7
  subst e1 e4 e7
  exact ⟨(nm, ty, nu), rfl, e2, e3, e5, e6⟩
theorem held_data {cs : List Value} (h : Held enc Try.prog W 33 cs) : ∃ (A : Option Addr) (c : Nat) (D : List ColD), cs = [.slice A D.length c] ∧ D.length ≤ 4611686018427387903 ∧ Reads W W.heap.size 1 A D.length (recs dataV D) ∧ DataIn W W.heap.size D ∧ ∀ d ∈ D, ∀ y ∈ d.2.2, CellFine y := by
  have ht : Try.prog.underlying 33 = some (.slice 44) := by kernel_rfl
  obtain ⟨A, c, l, h1, h2, _, h4, h5, h6⟩ := h.recs (f := dataV) (sz := 1) (by_ := 24) (Q := fun x => (Reads W W.heap.size 5 x.1 x.2.2.length (recs cellV x.2.2) ∧ (∀ y ∈ x.2.2, CellFine y) ∧ x.2.2.length ≤ x.2.1 ∧ x.2.1 ≤ 9223372036854775807 ∧ (x.1 = none → x.2.1 = 0))) (none, 0, []) ht (by kernel_rfl) (by kernel_rfl) (fun _ => rfl) (by omega) (fun cs hh => held_cells hh)
  exact ⟨A, c, l, h1, by unfold reachBytes at h4; omega, h5, fun d hd => ⟨(h6 d hd).1, fun y hy => ((h6 d hd).2.1 y hy).1, (h6 d hd).2.2⟩, fun d hd => (h6 d hd).2.1⟩
theorem open_Tb (hval : Value.okWide Try.prog W .any base 35 v) (h : DataW.Trod enc Try.prog W 0 (fun _ => true) true 35 v d ps) (hlt : ∀ p ∈ ps, p.block < W.heap.size) (hw : ∀ n ∈ d.weights Try.prog 35, n ≤ reachBytes) :
    ∃ (Ac : Option Addr) (cc : Nat) (L : List ColS) (r : Int) (Ad : Option Addr) (cd : Nat) (D : List ColD), v = .agg #[.slice Ac L.length cc, .int .i64 r, .slice Ad D.length cd] ∧ TabIn W Ac cc L Ad D ∧ (-9223372036854775808 ≤ r ∧ r ≤ 9223372036854775807) ∧ ∀ d ∈ D, ∀ y ∈ d.2.2, CellFine y := by
  have ht : Try.prog.underlying 35 = some (.struct (fieldsOf Try.prog 35)) := by kernel_rfl
  have he : Try.prog.underlying 27 = some (.struct (fieldsOf Try.prog 27)) := by kernel_rfl
  have hc : Try.prog.underlying 32 = some (.slice 27) := by kernel_rfl
  obtain ⟨⟨cs⟩, rfl, hsz⟩ := okWide_struct ht hval
  have hh := Held.of h hlt hw
  simp only [Value.cells] at hh
  obtain ⟨x0, x1, x2, rfl⟩ := list3 (hh.partLen ht (n := 3) (by kernel_rfl))
  have p0 := hh.part ht 0 0 1 (ft := 32) (by kernel_rfl) (by kernel_rfl)
  have p1 := hh.part ht 1 1 1 (ft := 3) (by kernel_rfl) (by kernel_rfl)
  have p2 := hh.part ht 2 2 1 (ft := 33) (by kernel_rfl) (by kernel_rfl)
  obtain ⟨Ac, cc, L, h1, h2, _, h4, h5, h6⟩ := p0.recs (f := colV) (sz := 3) (by_ := 32) (Q := fun x => (∀ z ∈ x.1, z < 256) ∧ x.1.length ≤ 140737488351232) ([], 0, false) hc (by kernel_rfl) (by kernel_rfl) (fun _ => rfl) (by omega) (fun cs hh => by
    obtain ⟨x0, x1, x2, rfl⟩ := list3 (hh.partLen he (n := 3) (by kernel_rfl))
    have p0 := hh.part he 0 0 1 (ft := 9) (by kernel_rfl) (by kernel_rfl)
    have p1 := hh.part he 1 1 1 (ft := 3) (by kernel_rfl) (by kernel_rfl)
    have p2 := hh.part he 2 2 1 (ft := 4) (by kernel_rfl) (by kernel_rfl)
    obtain ⟨nm, e1, e2, e3⟩ := p0.string (by kernel_rfl)
    obtain ⟨ty, e4, e5, e6⟩ := p1.i64 (by kernel_rfl)
    obtain ⟨nu, e7⟩ := p2.bool (by kernel_rfl)
    simp only [List.drop_succ_cons, List.drop_zero, List.take_succ_cons, List.take_zero, List.cons.injEq, and_true] at e1 e4 e7
    subst e1 e4 e7
    exact ⟨(nm, ty, nu), rfl, e2, e3⟩)
  obtain ⟨r, h7, h8, h9⟩ := p1.i64 (by kernel_rfl)
  obtain ⟨Ad, cd, D, g1, g2, g3, g4, g5⟩ := held_data p2
  simp only [List.drop_succ_cons, List.drop_zero, List.take_succ_cons, List.take_zero, List.cons.injEq, and_true] at h1 h7 g1
  subst h1 h7 g1
  exact ⟨Ac, cc, L, r, Ad, cd, D, rfl, ⟨h5, h6, h2, by unfold reachBytes at h4; omega, g3, g2, g4⟩, ⟨h8, h9⟩, g5⟩
end

end Go.Proofs.Ytcnaameebbcmhaa
