/- Which columns may be. No program is named here. -/
import Derived.Test.YtcnaameebbcmhaaCols

namespace Go.Hm
open Go Go.RowKit
/-- Which columns may be. -/
def ColsOk (l : List ColS) : Prop := l.length ≤ 64 ∧ (∀ x ∈ l, 0 < x.1.length ∧ x.1.length ≤ 100 ∧ 0 ≤ x.2.1 ∧ x.2.1 ≤ 3) ∧ (l.map (·.1)).Nodup
theorem colsGo_iff : ∀ (l a : List ColS), colsGo a l = 0 ↔ (∀ x ∈ l, 0 < x.1.length ∧ x.1.length ≤ 100 ∧ 0 ≤ x.2.1 ∧ x.2.1 ≤ 3) ∧ (l.map (·.1)).Nodup ∧ ∀ x ∈ l, x.1 ∉ a.map (·.1)
  | [], a => by simp [colsGo]
  | c :: l, a => by
    have key : colCk a c.1 c.2.1 = 0 ↔ (0 < c.1.length ∧ c.1.length ≤ 100 ∧ 0 ≤ c.2.1 ∧ c.2.1 ≤ 3) ∧ c.1 ∉ a.map (·.1) := by
      unfold colCk
      by_cases h : nameBad a c.1
      · rw [if_pos h]
        refine ⟨fun hh => by omega, fun hh => ?_⟩
        rcases h with h | h | h
        · omega
        · omega
        · exact absurd h hh.2
      · rw [if_neg h]
        by_cases h2 : 0 ≤ c.2.1 ∧ c.2.1 ≤ 3
        · rw [if_pos h2]
          refine ⟨fun _ => ⟨⟨?_, ?_, h2.1, h2.2⟩, fun hh => h (.inr (.inr hh))⟩, fun _ => rfl⟩
          · have : ¬ c.1.length = 0 := fun hh => h (.inl hh)
            omega
          · have : ¬ 100 < c.1.length := fun hh => h (.inr (.inl hh))
            omega
        · rw [if_neg h2]
          exact ⟨fun hh => by omega, fun hh => by omega⟩
    have ih := colsGo_iff l (a ++ [c])
    have e : colsGo a (c :: l) = 0 ↔ colCk a c.1 c.2.1 = 0 ∧ colsGo (a ++ [c]) l = 0 := by
      rw [colsGo]
      split
      · rename_i h; exact ⟨fun hh => ⟨h, hh⟩, fun hh => hh.2⟩
      · rename_i h; exact ⟨fun hh => absurd hh h, fun hh => absurd hh.1 h⟩
    rw [e, key, ih]
    simp only [List.forall_mem_cons, List.map_cons, List.nodup_cons, List.map_append, List.map_nil, List.mem_append, List.mem_singleton]
    constructor
    · rintro ⟨⟨h1, h2⟩, h3, h4, h5⟩
      refine ⟨⟨h1, h3⟩, ⟨fun hh => ?_, h4⟩, h2, fun x hx hh => h5 x hx (.inl hh)⟩
      obtain ⟨x, hx, hxe⟩ := List.mem_map.1 hh
      exact h5 x hx (.inr hxe)
    · rintro ⟨⟨h1, h3⟩, ⟨h4, h5⟩, h2, h6⟩
      refine ⟨⟨h1, h2⟩, h3, h5, fun x hx hh => ?_⟩
      rcases hh with hh | hh
      · exact h6 x hx hh
      · exact h4 (List.mem_map.2 ⟨x, hx, hh⟩)
theorem colsCk_iff (l : List ColS) : colsCk l = 0 ↔ ColsOk l := by
  unfold colsCk ColsOk
  split
  · exact ⟨fun hh => by omega, fun hh => by omega⟩
  · rename_i h
    rw [colsGo_iff]
    simp only [List.map_nil, List.not_mem_nil, not_false_eq_true, implies_true, and_true]
    exact ⟨fun hh => ⟨by omega, hh⟩, fun hh => hh.2⟩

end Go.Hm
