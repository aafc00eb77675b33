/- Places, and when a projection may be. -/
import Derived.Test.YtnmdbplkngnflaaCellJ

namespace Go.Hm
open Go Go.RowKit Go.Proofs.Ytnmdbplkngnflaa
theorem places_nodup {l : List Int} {n : Nat} (h : placesB l n = true) : l.Nodup := by
  rw [List.Nodup, List.pairwise_iff_getElem]
  intro i j hi hj hij e
  have := (places_at h hj).2.2
  rw [List.getD_eq_getElem?_getD, List.getElem?_eq_getElem hj, Option.getD_some] at this
  refine this ?_
  rw [← e, List.mem_iff_getElem]
  exact ⟨i, by rw [List.length_take]; omega, by rw [List.getElem_take]⟩
theorem places_mem {l : List Int} {n : Nat} (h : placesB l n = true) {x : Int} (hx : x ∈ l) : 0 ≤ x ∧ x < (n : Int) := by
  obtain ⟨k, hk, rfl⟩ := List.getElem_of_mem hx
  have := places_at h hk
  rw [List.getD_eq_getElem?_getD, List.getElem?_eq_getElem hk, Option.getD_some] at this
  exact ⟨this.1, this.2.1⟩
theorem places_iff {l : List Int} {n : Nat} (h1 : l.Nodup) (h2 : ∀ x ∈ l, 0 ≤ x ∧ x < (n : Int)) : placesB l n = true := by
  refine places_of fun k hk => ?_
  have e : l.getD k 0 = l[k] := by rw [List.getD_eq_getElem?_getD, List.getElem?_eq_getElem hk, Option.getD_some]
  rw [e]
  obtain ⟨a, b⟩ := h2 _ (List.getElem_mem hk)
  refine ⟨a, b, fun hm => ?_⟩
  obtain ⟨i, hi, hie⟩ := List.mem_iff_getElem.1 hm
  rw [List.length_take] at hi
  rw [List.getElem_take] at hie
  rw [List.Nodup, List.pairwise_iff_getElem] at h1
  exact h1 i k (by omega) hk (by omega) hie
theorem projEr_ok {L : List ColS} {r : Int} {D : List ColD} {l : List Int} {fr to_ : Int} : projEr L r D l fr to_ = 0 ↔ tabCk L r D = 0 ∧ placesB l L.length = true ∧ 0 ≤ fr ∧ fr ≤ to_ ∧ to_ ≤ r := by
  unfold projEr
  constructor
  · intro h
    split at h
    · rename_i h1; exact absurd h h1
    · rename_i h1
      split at h
      · cases h
      · rename_i h2
        refine ⟨Classical.not_not.1 h1, ?_⟩
        have h3 : placesB l L.length = true := Classical.byContradiction fun e => h2 (.inl e)
        exact ⟨h3, by omega, by omega, by omega⟩
  · rintro ⟨h1, h2, h3, h4, h5⟩
    rw [if_neg (by simpa using h1), if_neg (by rintro (h | h | h | h) <;> first | exact h h2 | omega)]
theorem projEr_7 {L : List ColS} {r : Int} {D : List ColD} {l : List Int} {fr to_ : Int} (h : tabCk L r D = 0) : projEr L r D l fr to_ = 0 ∨ projEr L r D l fr to_ = 7 := by
  unfold projEr
  rw [if_neg (by simpa using h)]
  split
  · exact .inr rfl
  · exact .inl rfl

end Go.Hm
