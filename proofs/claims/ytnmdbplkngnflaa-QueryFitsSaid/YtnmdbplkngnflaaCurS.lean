/- The cursors' contracts by states. -/
import Derived.Test.YtnmdbplkngnflaaVarG
import Derived.Test.YtnmdbplkngnflaaCurM
import Derived.Test.YtnmdbplkngnflaaTouch

namespace Go.Proofs.Ytnmdbplkngnflaa
open Go.RowKit Go.Hm
def CurS (w : World) (g : Nat) (S : St) : Prop := Cur w g (S.getD []) S.isNone

section
variable {w w' : World} {g : Nat} {S : St}
theorem CurS.lt (h : CurS w g S) : g < w.heap.size := Cur.lt h
theorem CurS.below (h : CurS w g S) (hb : Below w.heap.size w w') : CurS w' g S := Cur.below h hb
theorem CurS.keep {g' : Nat} {t : TypeId} {cs : Array Value} (h : CurS w g S) (hg : w.grownBy w' (some g')) (hT : Blk w g' t cs) (hne : g ≠ g') (ht : 5 ≠ t) : CurS w' g S := Cur.keep h hg hT hne ht
theorem CurS.blk (h : CurS w g S) : ∃ cs, Blk w g 71 cs := Cur.blk h
theorem CurS.push {e : TypeId} {base : Nat} {v : Value} {xs : List Value} (h : CurS w g S) (o : Own w base e v xs) (hg : w.grownBy w' v.ownBlock) (he1 : e ≠ 71) (he2 : 5 ≠ e) : CurS w' g S := by
  cases hv : v.ownBlock with
  | none =>
    rw [hv] at hg
    exact h.below ((Turns.of_none (T := []) hg).new (by simp))
  | some g' =>
    obtain ⟨cs, hB⟩ := o.row g' hv
    rw [hv] at hg
    obtain ⟨cs2, hC⟩ := h.blk
    exact h.keep hg hB (fun e' => by subst e'; exact Blk.ne_ hB hC he1 rfl) he2
theorem CurS.ok (h : CurS w g S) : S.ok := by
  intro l e
  subst e
  exact Cur.lt8 h
theorem CurS.of {l : List Nat} (h : Cur w g l false) : CurS w g (some l) := h
theorem CurS.len (h : CurS w g S) : (S.getD []).length ≤ 9223372036854775807 := by have := Cur.len h; unfold maxLen at this; omega
end
/-- A call at a cursor: its answer, and what is left. -/
def CPost (e0 : Ending) (g : Nat) (S : St) (w : World) (e : Ending) (w' : World) : Prop := e = e0 ∧ CurS w' g S ∧ w.grownBy w' (some g)
theorem failS {w : World} {g : Nat} {S : St} (h : CurS w g S) : Calls Try.prog 29 #[.pointer (some ⟨g, 0, none⟩)] w (CPost (.returned (.tuple #[])) g none w) := fail_any h
theorem badS {w : World} {g : Nat} {S : St} (h : CurS w g S) : Calls Try.prog 34 #[.pointer (some ⟨g, 0, none⟩)] w (BadPost S.isNone w) := bad_any h
theorem endS_any {w : World} {g : Nat} {S : St} (h : CurS w g S) : Calls Try.prog 21 #[.pointer (some ⟨g, 0, none⟩)] w (BadPost (endS S) w) := by
  have := end_any h
  have e : endS S = (!S.isNone && (S.getD []).isEmpty) := by
    cases S with
    | none => rfl
    | some l => cases l <;> simp [endS]
  rw [e]; exact this
theorem byteS_any {w : World} {g : Nat} {S : St} (h : CurS w g S) : Calls Try.prog 33 #[.pointer (some ⟨g, 0, none⟩)] w (CPost (.returned (.int .u8 ((byteS S).1 : Int))) g (byteS S).2 w) := by
  cases S with
  | none => exact byte_bad h (.inl rfl)
  | some l =>
    cases l with
    | nil => exact byte_bad h (.inr (by simp))
    | cons b r => exact byte_app h
theorem getS_any {w : World} {g : Nat} {S : St} (h : CurS w g S) : Calls Try.prog 28 #[.pointer (some ⟨g, 0, none⟩)] w (CPost (.returned (.int .u64 ((getS S).1 : Int))) g (getS S).2 w) := by
  rcases hc : getS S with ⟨v, T⟩
  have hok := h.ok
  cases S with
  | none =>
    simp only [getS, Prod.mk.injEq] at hc
    obtain ⟨rfl, rfl⟩ := hc
    exact get_no h (.inl rfl)
  | some l =>
    simp only [getS] at hc
    split at hc
    · rename_i N r hg
      obtain ⟨h1, h2⟩ := gv_some (hok l rfl) hg
      simp only [Prod.mk.injEq] at hc
      obtain ⟨rfl, rfl⟩ := hc
      subst h1
      exact get_app h h2
    · rename_i hg
      simp only [Prod.mk.injEq] at hc
      obtain ⟨rfl, rfl⟩ := hc
      exact get_no h (.inr (gv_none hg))
theorem lenS_any {w : World} {g : Nat} {m : Int} {S : St} (h : CurS w g S) (hm0 : -9223372036854775808 ≤ m) (hm : m ≤ 9223372036854775807) : Calls Try.prog 20 #[.pointer (some ⟨g, 0, none⟩), .int .i64 m] w (CPost (.returned (.int .i64 ((lenS m S).1 : Int))) g (lenS m S).2 w) := by
  have hok := h.ok
  by_cases hg : ∃ N r, S = some (vp N ++ r) ∧ (N : Int) ≤ m
  · obtain ⟨N, r, rfl, hN⟩ := hg
    rw [lenS_app N r hN hm]
    exact len_app h hN hm
  · have e : lenS m S = (0, none) := by
      rcases lenS_cases m S hok with h1 | ⟨N, r, h1, h2, _, _⟩
      · exact h1
      · exact absurd ⟨N, r, h1, h2⟩ hg
    rw [e]
    refine len_no h ?_ hm0 hm
    cases S with
    | none => exact .inl rfl
    | some l =>
      refine .inr fun N r hl => ?_
      simp only [Option.getD_some] at hl
      subst hl
      rcases Int.lt_or_le m N with h1 | h1
      · exact h1
      · exact absurd ⟨N, r, rfl, h1⟩ hg

end Go.Proofs.Ytnmdbplkngnflaa
