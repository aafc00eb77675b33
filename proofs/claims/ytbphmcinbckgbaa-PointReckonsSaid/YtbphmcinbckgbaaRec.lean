/- Structs that came in, part by part. No program is named here. -/
import Derived.Test.YtbphmcinbckgbaaHeld

namespace Go.Hm
open Go Go.RowKit Go.WideShapes Go.ChangeShapes Go.Deep

section
variable {H : Type} {enc : TypeId × Value → H} {P : Program} {W : World} {t e : TypeId} {cs : List Value} {n : Nat}
def fieldsOf (P : Program) (t : TypeId) : Array Field := match P.underlying t with | some (.struct fs) => fs | _ => #[]
theorem Held.part (h : Held enc P W t cs) (hs : P.underlying t = some (.struct (fieldsOf P t))) (i off n : Nat) {ft : TypeId} (hf : ((fieldsOf P t)[i]?.map fun f => (f.type, f.offset)) = some (ft, off)) (hn : P.cellsOf ft = n) : Held enc P W ft ((cs.drop off).take n) := by
  obtain ⟨_, hall⟩ := h.field hs
  cases hfi : (fieldsOf P t)[i]? with
  | none => rw [hfi] at hf; cases hf
  | some f =>
    rw [hfi] at hf
    simp only [Option.map_some, Option.some.injEq, Prod.mk.injEq] at hf
    obtain ⟨h1, h2⟩ := hf
    have := hall i f hfi
    rw [h1, h2, hn] at this
    exact this
theorem Held.partLen (h : Held enc P W t cs) (hs : P.underlying t = some (.struct (fieldsOf P t))) (hn : P.cellsOf t = n) : cs.length = n := (h.field hs).1.trans hn
theorem ints_recs (l : List Int) : recs (fun n : Int => [.int .i64 n]) l = ints .i64 l := by
  induction l with
  | nil => rfl
  | cons x l ih => rw [recs_cons, ih]; rfl
/-- A slice of numbers within what came in. -/
theorem Held.ints_ {te : TypeId} (ht : P.underlying t = some (.slice te)) (hC : P.cellsOf te = 1) (hby : P.bytesOf te = 8) (hi : P.underlying te = some (.int .i64)) (h : Held enc P W t cs) :
    ∃ A c, ∃ l : List Int, cs = [.slice A l.length c] ∧ l.length ≤ c ∧ c * 8 ≤ 140737488351232 ∧ Reads W W.heap.size 1 A l.length (ints .i64 l) ∧ ∀ x ∈ l, -9223372036854775808 ≤ x ∧ x ≤ 9223372036854775807 := by
  obtain ⟨A, c, l, h1, h2, _, h4, h5, h6⟩ := h.recs (f := fun n : Int => [.int .i64 n]) (sz := 1) (by_ := 8) (Q := fun x => -9223372036854775808 ≤ x ∧ x ≤ 9223372036854775807) 0 ht hC hby (fun _ => rfl) (by omega) (fun cs hh => by
    obtain ⟨n, e1, e2, e3⟩ := hh.i64 hi
    exact ⟨n, e1, e2, e3⟩)
  exact ⟨A, c, l, h1, h2, by unfold reachBytes at h4; omega, by rw [← ints_recs]; exact h5, h6⟩
/-- Only the header of a slice within what came in. -/
theorem Held.head {te : TypeId} (ht : P.underlying t = some (.slice te)) (h : Held enc P W t cs) : ∃ A n c, cs = [.slice A n c] ∧ n ≤ c ∧ c ≤ maxLen := by
  rcases h.slice ht with rfl | ⟨a, len, cap, rfl, hl, hm, _⟩
  · exact ⟨none, 0, 0, rfl, by omega, by simp [maxLen]⟩
  · exact ⟨some a, len, cap, rfl, hl, hm⟩
theorem list3 {α : Type} {l : List α} (h : l.length = 3) : ∃ a b c, l = [a, b, c] := by
  match l, h with
  | [a, b, c], _ => exact ⟨a, b, c, rfl⟩
end

end Go.Hm
