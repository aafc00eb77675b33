/- Arrays of numbers are compared. No program is named here. -/
import Derived.Test.YtglghnnmfplmdaaDoorMem
import Derived.DeepKeys
import Derived.ChangeKeysEq
import Derived.Laws.StructEq

namespace Go.Hm
open Go Go.RowKit

section
variable {P : Program} {e : TypeId} {k : IntKind}
theorem run_eqItems_ints (d : Nat) (he : P.underlying e = some (.int k)) (hk : P.plainKey e = true) (l m : List Int) (w : World) : ∀ is : List Nat, (∀ i ∈ is, i < l.length ∧ i < m.length) →
    (Op.eqItems (d + 1) e 1 (ints k l).toArray (ints k m).toArray is).run P w = .ok (is.all fun i => l.getD i 0 == m.getD i 0) w
  | [], _ => by simp [Op.eqItems]
  | i :: is, h => by
    obtain ⟨h1, h2⟩ := h i (by simp)
    have p1 := run_part_plain (P := P) w hk (xs := (ints k l).toArray) (off := i * 1) (v := .int k (l.getD i 0)) (by simpa using ints_at k l i h1)
    have p2 := run_part_plain (P := P) w hk (xs := (ints k m).toArray) (off := i * 1) (v := .int k (m.getD i 0)) (by simpa using ints_at k m i h2)
    have ih := run_eqItems_ints d he hk l m w is (fun j hj => h j (by simp [hj]))
    have q := run_equalIn_int (P := P) w d e k k (l.getD i 0) (m.getD i 0) he
    simp only [Op.eqItems, Sem.run_bind, p1, p2, q, Result.andThen_ok, List.all_cons]
    cases hb : (l.getD i 0 == m.getD i 0)
    · simp
    · simp [ih]
theorem range_all {l m : List Int} (h : l.length = m.length) : ((List.range l.length).all fun i => l.getD i 0 == m.getD i 0) = (l == m) := by
  rw [Bool.eq_iff_iff, List.all_eq_true, beq_iff_eq]
  constructor
  · intro hh
    refine List.ext_getElem h fun i h1 h2 => ?_
    have := hh i (List.mem_range.2 h1)
    rw [List.getD_eq_getElem?_getD, List.getElem?_eq_getElem h1, List.getD_eq_getElem?_getD, List.getElem?_eq_getElem h2] at this
    simpa using this
  · rintro rfl i _
    simp
theorem run_eql_arr {t : TypeId} {n : Nat} (hu : P.underlying t = some (.array n e)) (he : P.underlying e = some (.int k)) (hk : P.plainKey e = true) (hi : (P.info? e).isSome = true) (hc : P.cellsOf e = 1) (l m : List Int) (hl : l.length = n) (hm : m.length = n) (w : World) :
    (binOp .eql t (.agg (ints k l).toArray) (.agg (ints k m).toArray)).run P w = .ok (.bool (l == m)) w := by
  cases hq : P.info? e with
  | none => rw [hq] at hi; cases hi
  | some i =>
    rw [run_eql_struct, run_equalIn_array w 9999 _ _ hu hq, hc, run_eqItems_ints 9998 he hk l m w _ (fun i hi => by have := List.mem_range.1 hi; omega), ← hl, range_all (by omega)]
    simp [Result.andThen]
end

end Go.Hm
