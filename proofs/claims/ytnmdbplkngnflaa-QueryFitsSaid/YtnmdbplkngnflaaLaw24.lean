/- What layer 24's laws share. -/
import Derived.Test.YtnmdbplkngnflaaSmallQ

namespace Go.Proofs.Ytnmdbplkngnflaa
open Go.RowKit Go.Hm
abbrev Q3 := List Int × Int × Int
theorem OptQ.u {o : Option Q3} {w w' : World} {e : Ending} (h : OptQ o w e w') :
    ∃ A n c, e = .returned (.tuple #[Qv A n c (o.getD ([], 0, 0)).2.1 (o.getD ([], 0, 0)).2.2, .bool o.isSome]) ∧ Own w' w.heap.size 3 (.slice A n c) (ints .i64 (o.getD ([], 0, 0)).1) ∧ New w w' := by
  cases o with
  | none =>
    obtain ⟨rfl, h2⟩ := h
    exact ⟨none, 0, 0, rfl, Own.nil_, h2⟩
  | some q =>
    obtain ⟨l, f, t⟩ := q
    exact h
theorem qcells {w : World} {g : Nat} {ty : TypeId} {x y z : Value} (h : Blk w g ty #[x, y, z]) : w.cell? ⟨g, 0, none⟩ = some x ∧ w.cell? ⟨g, 1, none⟩ = some y ∧ w.cell? ⟨g, 2, none⟩ = some z := by
  have h0 := h.cell 0
  have h1 := h.cell 1
  have h2 := h.cell 2
  simp at h0 h1 h2
  exact ⟨h0, h1, h2⟩
theorem decQ_len {b : List Nat} (h8 : ∀ x ∈ b, x < 256) : ((decQ b).getD ([], 0, 0)).1.length ≤ 64 := by
  cases h : decQ b with
  | none => simp
  | some q =>
    obtain ⟨l, f, t⟩ := q
    have h2 := (decQ_iff h8).1 h
    unfold encQ at h2
    split at h2
    · rename_i hm
      exact okCols_len ((qmay_iff l f t).1 hm).2
    · cases h2
theorem vp_byte (n : Nat) : ∀ x ∈ vp n, x < 256 := by
  induction n using Nat.strongRecOn with
  | _ n ih =>
    intro x hx
    by_cases hn : n < 128
    · rw [vp_lt hn] at hx
      simp at hx
      omega
    · rw [vp_ge hn, List.mem_cons] at hx
      rcases hx with rfl | hx
      · omega
      · exact ih (n / 128) (by omega) x hx
theorem catI_byte (l : List Int) : ∀ x ∈ catI l, x < 256 := by
  intro x hx
  unfold catI at hx
  obtain ⟨y, _, hy⟩ := List.mem_flatMap.1 hx
  exact vp_byte _ x hy
theorem qenc_lt (l : List Int) (f t : Int) : ∀ x ∈ qenc l f t, x < 256 := by
  intro x hx
  unfold qenc at hx
  simp only [List.mem_append] at hx
  rcases hx with ((hx | hx) | hx) | hx
  · exact vp_byte _ x hx
  · exact catI_byte _ x hx
  · exact vp_byte _ x hx
  · exact vp_byte _ x hx
theorem encQ_lt {L : List Int} {f t : Int} {V : List Nat} (h : encQ L f t = some V) : ∀ x ∈ V, x < 256 := by
  unfold encQ at h
  split at h
  · injection h with h
    subst h
    exact qenc_lt _ _ _
  · cases h
theorem encQ_len {L : List Int} {f t : Int} {V : List Nat} (h : encQ L f t = some V) : V.length ≤ 1000 := by
  unfold encQ at h
  split at h
  · rename_i hq
    injection h with h
    subst h
    obtain ⟨⟨h1, h2, h3⟩, h4⟩ := (qmay_iff L f t).1 hq
    have hl := okCols_len h4
    unfold qenc
    rw [List.length_append, List.length_append, List.length_append, catI_len _ (fun x hx => h4.1 x hx)]
    have := vp_len10 (n := L.length) (by omega)
    have := vp_len10 (n := f.toNat) (by omega)
    have := vp_len10 (n := t.toNat) (by omega)
    omega
  · cases h
theorem encQ_bound {L : List Int} {f t : Int} {V : List Nat} (h : encQ L f t = some V) : ∀ x ∈ L, -9223372036854775808 ≤ x ∧ x ≤ 9223372036854775807 := by
  unfold encQ at h
  split at h
  · rename_i hq
    intro x hx
    have := ((qmay_iff L f t).1 hq).2.1 x hx
    omega
  · cases h
theorem encQ_inj {L L2 : List Int} {f t f2 t2 : Int} {V V2 : List Nat} (h : encQ L f t = some V) (h2 : encQ L2 f2 t2 = some V2) : decide (V = V2) = decide ((L, f, t) = (L2, f2, t2)) := by
  have hl := encQ_lt h
  have hl2 := encQ_lt h2
  refine decide_eq_decide.2 ⟨fun e => ?_, fun e => ?_⟩
  · subst e
    have a := (decQ_iff hl).2 h
    have b := (decQ_iff hl).2 h2
    rw [a] at b
    injection b
  · simp only [Prod.mk.injEq] at e
    obtain ⟨rfl, rfl, rfl⟩ := e
    rw [h] at h2
    injection h2

end Go.Proofs.Ytnmdbplkngnflaa
