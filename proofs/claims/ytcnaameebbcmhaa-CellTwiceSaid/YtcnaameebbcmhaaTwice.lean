/- What a projection of a table is, and a projection of a projection: plain lists. -/
import Derived.Test.YtcnaameebbcmhaaColsOk
import Derived.Test.YtcnaameebbcmhaaTab

namespace Go.Hm
open Go Go.RowKit Go.Proofs.Ytcnaameebbcmhaa
theorem places_nodup {l : List Int} {n : Nat} (h : placesB l n = true) : l.Nodup := by
  rw [List.Nodup, List.pairwise_iff_getElem]
  intro i j hi hj hij e
  have := (places_at h hj).2.2
  rw [List.getD_eq_getElem?_getD, List.getElem?_eq_getElem hj, Option.getD_some] at this
  refine this ?_
  rw [← e, List.mem_iff_getElem]
  exact ⟨i, by rw [List.length_take]; omega, by rw [List.getElem_take]⟩
theorem places_mem {l : List Int} {n : Nat} (h : placesB l n = true) {x : Int} (hx : x ∈ l) : 0 ≤ x ∧ x < (n : Int) := by
  obtain ⟨k, hk, rfl⟩ := List.getElem_of_mem hx
  have := places_at h hk
  rw [List.getD_eq_getElem?_getD, List.getElem?_eq_getElem hk, Option.getD_some] at this
  exact ⟨this.1, this.2.1⟩
theorem places_iff {l : List Int} {n : Nat} (h1 : l.Nodup) (h2 : ∀ x ∈ l, 0 ≤ x ∧ x < (n : Int)) : placesB l n = true := by
  refine places_of fun k hk => ?_
  have e : l.getD k 0 = l[k] := by rw [List.getD_eq_getElem?_getD, List.getElem?_eq_getElem hk, Option.getD_some]
  rw [e]
  obtain ⟨a, b⟩ := h2 _ (List.getElem_mem hk)
  refine ⟨a, b, fun hm => ?_⟩
  obtain ⟨i, hi, hie⟩ := List.mem_iff_getElem.1 hm
  rw [List.length_take] at hi
  rw [List.getElem_take] at hie
  rw [List.Nodup, List.pairwise_iff_getElem] at h1
  exact h1 i k (by omega) hk (by omega) hie
theorem length_filter_ne {l : List Int} (h : l.Nodup) (a : Int) : l.length ≤ (l.filter (fun x => decide (x ≠ a))).length + 1 := by
  induction l with
  | nil => simp
  | cons x l ih =>
    rw [List.nodup_cons] at h
    have ih := ih h.2
    rw [List.filter_cons]
    by_cases e : x = a
    · subst e
      have : l.filter (fun y => decide (y ≠ x)) = l := List.filter_eq_self.2 fun y hy => decide_eq_true (fun e => h.1 (e ▸ hy))
      rw [this]
      simp
    · simp [e] at ih ⊢
      exact ih
theorem pigeon : ∀ (n : Nat) (l : List Int), l.Nodup → (∀ x ∈ l, 0 ≤ x ∧ x < (n : Int)) → l.length ≤ n := by
  intro n
  induction n with
  | zero =>
    intro l _ h
    cases l with
    | nil => simp
    | cons x l => have := h x (by simp); omega
  | succ n ih =>
    intro l h1 h2
    have := ih (l.filter (fun x => decide (x ≠ (n : Int)))) (h1.filter _) (fun x hx => by
      obtain ⟨hm, hne⟩ := List.mem_filter.1 hx
      have h3 := h2 x hm
      have h4 := of_decide_eq_true hne
      omega)
    have := length_filter_ne h1 (n : Int)
    omega
theorem tabCk_iff {L : List ColS} {r : Int} {D : List ColD} : tabCk L r D = 0 ↔ colsCk L = 0 ∧ shapeCk L.length r D = 0 ∧ allRight D L = true := by
  unfold tabCk
  constructor
  · intro h
    split at h
    · rename_i h1; exact absurd h h1
    · rename_i h1
      split at h
      · rename_i h2; exact absurd h h2
      · rename_i h2
        split at h
        · rename_i h3; exact ⟨Classical.not_not.1 h1, Classical.not_not.1 h2, h3⟩
        · cases h
  · rintro ⟨h1, h2, h3⟩
    rw [if_neg (by simpa using h1), if_neg (by simpa using h2), if_pos h3]
theorem cut_len {D : List ColD} {r fr to_ c : Int} (hD : ∀ d ∈ D, ((d.2.2.length : Nat) : Int) = r) (hc : 0 ≤ c ∧ c < (D.length : Int)) (h0 : 0 ≤ fr) (h1 : fr ≤ to_) (h2 : to_ ≤ r) : (((cutC D fr to_ c).length : Nat) : Int) = to_ - fr := by
  unfold cutC
  have := hD _ (mem_getDJ (none, 0, []) (show c.toNat < D.length by omega))
  rw [List.length_take, List.length_drop]
  omega
theorem map_getD {α β : Type} {f : α → β} {D : List α} {C : List β} (h : D.map f = C) {k : Nat} (hk : k < D.length) (d : α) (e : β) : f (D.getD k d) = C.getD k e := by
  subst h
  rw [List.getD_eq_getElem?_getD, List.getElem?_eq_getElem hk, List.getD_eq_getElem?_getD, List.getElem?_map, List.getElem?_eq_getElem hk]
  rfl
theorem tab_proj {L : List ColS} {r : Int} {D : List ColD} {l : List Int} {fr to_ : Int} {D' : List ColD} (h : tabCk L r D = 0) (hp : placesB l L.length = true) (h0 : 0 ≤ fr) (h1 : fr ≤ to_) (h2 : to_ ≤ r) (hD' : D'.map (·.2.2) = l.map (cutC D fr to_)) :
    tabCk (l.map (fun c => L.getD c.toNat ([], 0, false))) (to_ - fr) D' = 0 := by
  obtain ⟨a1, a2, a3⟩ := tabCk_iff.1 h
  obtain ⟨b1, b2, b3⟩ := (colsCk_iff L).1 a1
  obtain ⟨c1, c2, c3, c4⟩ := shape_len a2
  have hmem := fun x (hx : x ∈ l) => places_mem hp hx
  have hnd := places_nodup hp
  have hll := pigeon L.length l hnd hmem
  have hdl : D'.length = l.length := by have := congrArg List.length hD'; simpa using this
  have hLm : ∀ c ∈ l, L.getD c.toNat ([], 0, false) ∈ L := fun c hc => mem_getDJ _ (by have := hmem c hc; omega)
  refine tabCk_iff.2 ⟨(colsCk_iff _).2 ⟨by rw [List.length_map]; omega, fun x hx => ?_, ?_⟩, ?_, ?_⟩
  · obtain ⟨c, hc, rfl⟩ := List.mem_map.1 hx
    exact b2 _ (hLm c hc)
  · rw [List.map_map, List.Nodup, List.pairwise_map]
    refine List.Pairwise.imp_of_mem (fun {a b} ha hb hne hh => hne ?_) hnd
    have ka := hmem a ha
    have kb := hmem b hb
    rw [List.Nodup, List.pairwise_iff_getElem] at b3
    have ea : (L.getD a.toNat ([], 0, false)).1 = (L.map (·.1))[a.toNat]'(by rw [List.length_map]; omega) := by
      rw [List.getElem_map, List.getD_eq_getElem?_getD, List.getElem?_eq_getElem (by omega)]; rfl
    have eb : (L.getD b.toNat ([], 0, false)).1 = (L.map (·.1))[b.toNat]'(by rw [List.length_map]; omega) := by
      rw [List.getElem_map, List.getD_eq_getElem?_getD, List.getElem?_eq_getElem (by omega)]; rfl
    have hh : (L.getD a.toNat ([], 0, false)).1 = (L.getD b.toNat ([], 0, false)).1 := hh
    rw [ea, eb] at hh
    rcases Nat.lt_trichotomy a.toNat b.toNat with hlt | heq | hgt
    · exact absurd hh (b3 _ _ _ _ hlt)
    · omega
    · exact absurd hh.symm (b3 _ _ _ _ hgt)
  · have hlen : ∀ d ∈ D', ((d.2.2.length : Nat) : Int) = to_ - fr := by
      intro d hd
      have hm : d.2.2 ∈ D'.map (·.2.2) := List.mem_map.2 ⟨d, hd, rfl⟩
      rw [hD'] at hm
      obtain ⟨c, hc, e⟩ := List.mem_map.1 hm
      rw [← e]
      exact cut_len c4 (by have := hmem c hc; omega) h0 h1 h2
    unfold shapeCk
    rw [if_neg (by omega), if_neg (by rw [List.length_map]; omega), if_neg (fun ⟨d, hd, hne⟩ => hne (hlen d hd))]
  · refine allRight_of (by rw [List.length_map]; exact hdl) fun k hk => ?_
    have hkl : k < l.length := by omega
    have e1 : (D'.getD k (none, 0, [])).2.2 = cutC D fr to_ (l.getD k 0) := by
      have := map_getD hD' hk (none, 0, []) []
      rw [this, List.getD_eq_getElem?_getD, List.getElem?_map, List.getElem?_eq_getElem hkl, List.getD_eq_getElem?_getD, List.getElem?_eq_getElem hkl]
      rfl
    have e2 : (l.map (fun c => L.getD c.toNat ([], 0, false))).getD k ([], 0, false) = L.getD (l.getD k 0).toNat ([], 0, false) := by
      rw [List.getD_eq_getElem?_getD, List.getElem?_map, List.getElem?_eq_getElem hkl, List.getD_eq_getElem?_getD (l := l), List.getElem?_eq_getElem hkl]
      rfl
    rw [e1, e2]
    have hc := hmem (l.getD k 0) (mem_getDJ _ hkl)
    have hr := allRight_at c1 a3 (show (l.getD k 0).toNat < D.length by omega)
    refine List.all_eq_true.2 fun x hx => ?_
    exact List.all_eq_true.1 hr x (List.mem_of_mem_drop (List.mem_of_mem_take hx))
/-- The columns of the table that the second projection's are. -/
def bothL (l s : List Int) : List Int := s.map fun c => l.getD c.toNat 0
theorem both_places {l s : List Int} {n : Nat} (h1 : placesB l n = true) (h2 : placesB s l.length = true) : placesB (bothL l s) n = true := by
  refine places_iff ?_ fun x hx => ?_
  · rw [bothL, List.Nodup, List.pairwise_map]
    refine List.Pairwise.imp_of_mem (fun {a b} ha hb hne hh => hne ?_) (places_nodup h2)
    have ka := places_mem h2 ha
    have kb := places_mem h2 hb
    have hnd := places_nodup h1
    rw [List.Nodup, List.pairwise_iff_getElem] at hnd
    have ea : l.getD a.toNat 0 = l[a.toNat]'(by omega) := by rw [List.getD_eq_getElem?_getD, List.getElem?_eq_getElem (by omega)]; rfl
    have eb : l.getD b.toNat 0 = l[b.toNat]'(by omega) := by rw [List.getD_eq_getElem?_getD, List.getElem?_eq_getElem (by omega)]; rfl
    rw [ea, eb] at hh
    rcases Nat.lt_trichotomy a.toNat b.toNat with hlt | heq | hgt
    · exact absurd hh (hnd _ _ _ _ hlt)
    · omega
    · exact absurd hh.symm (hnd _ _ _ _ hgt)
  · obtain ⟨c, hc, rfl⟩ := List.mem_map.1 hx
    have := places_mem h2 hc
    exact places_mem h1 (mem_getDJ _ (by omega))
theorem both_cols {L : List ColS} {l s : List Int} (h2 : placesB s l.length = true) : s.map (fun c => (l.map (fun c => L.getD c.toNat ([], 0, false))).getD c.toNat ([], 0, false)) = (bothL l s).map (fun c => L.getD c.toNat ([], 0, false)) := by
  rw [bothL, List.map_map]
  refine List.map_congr_left fun c hc => ?_
  have := places_mem h2 hc
  have hcl : c.toNat < l.length := by omega
  show _ = L.getD (l.getD c.toNat 0).toNat ([], 0, false)
  rw [List.getD_eq_getElem?_getD, List.getElem?_map, List.getElem?_eq_getElem hcl, List.getD_eq_getElem?_getD (l := l), List.getElem?_eq_getElem hcl]
  rfl
theorem both_cut {D D' : List ColD} {l s : List Int} {fr to_ f2 t2 : Int} (hD' : D'.map (·.2.2) = l.map (cutC D fr to_)) (h2 : placesB s l.length = true) (h0 : 0 ≤ fr) (h3 : 0 ≤ f2) (h4 : f2 ≤ t2) (h5 : t2 ≤ to_ - fr) :
    s.map (cutC D' f2 t2) = (bothL l s).map (cutC D (fr + f2) (fr + t2)) := by
  have hdl : D'.length = l.length := by have := congrArg List.length hD'; simpa using this
  rw [bothL, List.map_map]
  refine List.map_congr_left fun c hc => ?_
  have := places_mem h2 hc
  have hcl : c.toNat < l.length := by omega
  have e1 : (D'.getD c.toNat (none, 0, [])).2.2 = cutC D fr to_ (l.getD c.toNat 0) := by
    have := map_getD hD' (show c.toNat < D'.length by omega) (none, 0, []) []
    rw [this, List.getD_eq_getElem?_getD, List.getElem?_map, List.getElem?_eq_getElem hcl, List.getD_eq_getElem?_getD, List.getElem?_eq_getElem hcl]
    rfl
  show ((D'.getD c.toNat (none, 0, [])).2.2.drop f2.toNat).take (t2 - f2).toNat = cutC D (fr + f2) (fr + t2) (l.getD c.toNat 0)
  rw [e1]
  unfold cutC
  rw [List.drop_take, List.drop_drop, List.take_take]
  congr 1
  · omega
  · congr 1
    omega
theorem projEr_ok {L : List ColS} {r : Int} {D : List ColD} {l : List Int} {fr to_ : Int} : projEr L r D l fr to_ = 0 ↔ tabCk L r D = 0 ∧ placesB l L.length = true ∧ 0 ≤ fr ∧ fr ≤ to_ ∧ to_ ≤ r := by
  unfold projEr
  constructor
  · intro h
    split at h
    · rename_i h1; exact absurd h h1
    · rename_i h1
      split at h
      · cases h
      · rename_i h2
        refine ⟨Classical.not_not.1 h1, ?_⟩
        have h3 : placesB l L.length = true := Classical.byContradiction fun e => h2 (.inl e)
        exact ⟨h3, by omega, by omega, by omega⟩
  · rintro ⟨h1, h2, h3, h4, h5⟩
    rw [if_neg (by simpa using h1), if_neg (by rintro (h | h | h | h) <;> first | exact h h2 | omega)]
theorem projEr_7 {L : List ColS} {r : Int} {D : List ColD} {l : List Int} {fr to_ : Int} (h : tabCk L r D = 0) : projEr L r D l fr to_ = 0 ∨ projEr L r D l fr to_ = 7 := by
  unfold projEr
  rw [if_neg (by simpa using h)]
  split
  · exact .inr rfl
  · exact .inl rfl

end Go.Hm
