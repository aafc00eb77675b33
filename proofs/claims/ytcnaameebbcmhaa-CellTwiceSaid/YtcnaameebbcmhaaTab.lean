/- Tables of the call's own. -/
import Derived.Test.YtcnaameebbcmhaaCellRp
import Derived.Test.YtcnaameebbcmhaaCellT

namespace Go.Hm
open Go Go.RowKit
def colFine (c : ColS) : Prop := (∀ z ∈ c.1, z < 256) ∧ c.1.length ≤ 140737488351232
def cellFine (c : CellS) : Prop := c.2.2.1.length ≤ 140737488351232 ∧ ∀ z ∈ c.2.2.1, z < 256

end Go.Hm

namespace Go.Proofs.Ytcnaameebbcmhaa
open Go.RowKit Go.Hm
/-- A table of the call's own lies in the world. -/
structure TabOwn (w : World) (B : Nat) (Ac : Option Addr) (cc : Nat) (L : List ColS) (Ad : Option Addr) (cd : Nat) (D : List ColD) : Prop where
  cols : w.ownsRow B 27 3 (.slice Ac L.length cc) L.length (recs colV L)
  data : w.ownsRow B 44 1 (.slice Ad D.length cd) D.length (recs dataV D)
  rows : RowsIn w B D

section
variable {w w' : World} {B : Nat} {Ac : Option Addr} {cc : Nat} {L : List ColS} {Ad : Option Addr} {cd : Nat} {D : List ColD}
theorem TabOwn.later (h : TabOwn w B Ac cc L Ad cd D) (hb : New w w') : TabOwn w' B Ac cc L Ad cd D := ⟨row_later h.cols hb, row_later h.data hb, h.rows.later hb⟩
theorem TabOwn.far {g : Nat} (h : TabOwn w B Ac cc L Ad cd D) (hg : w.grownBy w' (some g)) (hB : g < B) : TabOwn w' B Ac cc L Ad cd D :=
  ⟨World.ownsRow.kept h.cols hg (.inr (fun e => by have := (World.ownsRow.lt h.cols _ e).1; omega)), World.ownsRow.kept h.data hg (.inr (fun e => by have := (World.ownsRow.lt h.data _ e).1; omega)),
    fun d hd => World.ownsRow.kept (h.rows d hd) hg (.inr (fun e => by have := (World.ownsRow.lt (h.rows d hd) _ e).1; omega))⟩
theorem TabOwn.tabIn (h : TabOwn w B Ac cc L Ad cd D) (hl : L.length ≤ 100000) (hdl : D.length ≤ 100000) (hL : ∀ x ∈ L, colFine x) (hD : ∀ d ∈ D, ∀ y ∈ d.2.2, cellFine y) : TabIn w Ac cc L Ad D := by
  obtain ⟨_, _, e1, q1, q2⟩ := row_slice h.cols
  obtain ⟨_, _, e2, q3, q4⟩ := row_slice h.data
  injection e1 with e1 _ e1c
  injection e2 with e2 _ e2c
  subst e1 e1c e2 e2c
  refine ⟨Reads.of_own h.cols, hL, q1, by omega, Reads.of_own h.data, by omega, fun d hd => ?_⟩
  have hr := h.rows d hd
  obtain ⟨_, _, e3, q5, q6⟩ := row_slice hr
  injection e3 with e3 _ e3c
  subst e3 e3c
  refine ⟨Reads.of_own hr, fun y hy => hD d hd y hy, q5, by simp only [maxLen] at q6; omega, fun hn => ?_⟩
  rcases hr.2 with ⟨hv, _⟩ | ⟨g, cap, cur, hv, _⟩
  · injection hv
  · injection hv with hv
    rw [hn] at hv
    cases hv
theorem TabPost.own {er : Int} {r : Int} {C : List (List CellS)} {e : Ending} (h : TabPost er L r C w e w') :
    ∃ (Ac Ad : Option Addr) (cc cd : Nat) (D : List ColD), e = .returned (.tuple #[.agg #[.slice Ac L.length cc, .int .i64 r, .slice Ad D.length cd], .int .i64 er]) ∧ TabOwn w' w.heap.size Ac cc L Ad cd D ∧ D.map (·.2.2) = C ∧ New w w' := by
  obtain ⟨Ac, Ad, cc, cd, D, rfl, h1, h2, h3, h4, h5⟩ := h
  exact ⟨Ac, Ad, cc, cd, D, rfl, ⟨h1, h2, h3⟩, h4, h5⟩
end
theorem projL_fine {er : Int} {L : List ColS} {l : List Int} (hL : ∀ x ∈ L, colFine x) : ∀ x ∈ projL er L l, colFine x := by
  intro x hx
  unfold projL at hx
  split at hx
  · obtain ⟨c, _, rfl⟩ := List.mem_map.1 hx
    by_cases h : c.toNat < L.length
    · exact hL _ (mem_getDJ _ h)
    · rw [List.getD_eq_getElem?_getD, List.getElem?_eq_none (by omega)]
      exact ⟨by simp, by simp⟩
  · cases hx
theorem cutC_mem {D : List ColD} {fr to_ c : Int} {y : CellS} (h : y ∈ cutC D fr to_ c) : ∃ d ∈ D, y ∈ d.2.2 := by
  unfold cutC at h
  have h := List.mem_of_mem_drop (List.mem_of_mem_take h)
  by_cases hc : c.toNat < D.length
  · exact ⟨_, mem_getDJ _ hc, h⟩
  · rw [List.getD_eq_getElem?_getD, List.getElem?_eq_none (by omega)] at h
    cases h
theorem projC_fine {er : Int} {D : List ColD} {l : List Int} {fr to_ : Int} {D' : List ColD} (hD : ∀ d ∈ D, ∀ y ∈ d.2.2, cellFine y) (h : D'.map (·.2.2) = projC er D l fr to_) : ∀ d ∈ D', ∀ y ∈ d.2.2, cellFine y := by
  intro d hd y hy
  have hm : d.2.2 ∈ D'.map (·.2.2) := List.mem_map.2 ⟨d, hd, rfl⟩
  rw [h] at hm
  unfold projC at hm
  split at hm
  · obtain ⟨c, _, e⟩ := List.mem_map.1 hm
    rw [← e] at hy
    obtain ⟨d', hd', hy'⟩ := cutC_mem hy
    exact hD d' hd' y hy'
  · cases hm

end Go.Proofs.Ytcnaameebbcmhaa
