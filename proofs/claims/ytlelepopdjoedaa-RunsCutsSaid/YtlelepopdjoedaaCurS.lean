/- The cursors' contracts by states. -/
import Derived.Test.YtlelepopdjoedaaVarG
import Derived.Test.YtlelepopdjoedaaCurM
import Derived.Test.YtlelepopdjoedaaTouch
import Derived.Test.YtlelepopdjoedaaRefCur
import Derived.Test.YtlelepopdjoedaaRefNum
import Derived.Test.YtlelepopdjoedaaRefV

namespace Go.Proofs.Ytlelepopdjoedaa
open Go.RowKit Go.Hm
def CurS (w : World) (g : Nat) (S : St) : Prop := Cur w g (S.getD []) S.isNone

section
variable {w w' : World} {g : Nat} {S : St}
theorem CurS.lt (h : CurS w g S) : g < w.heap.size := Cur.lt h
theorem CurS.below (h : CurS w g S) (hb : Below w.heap.size w w') : CurS w' g S := Cur.below h hb
theorem CurS.keep {g' : Nat} {t : TypeId} {cs : Array Value} (h : CurS w g S) (hg : w.grownBy w' (some g')) (hT : Blk w g' t cs) (hne : g ≠ g') (ht : 5 ≠ t) : CurS w' g S := Cur.keep h hg hT hne ht
theorem CurS.blk (h : CurS w g S) : ∃ cs, Blk w g 60 cs := Cur.blk h
theorem CurS.push {e : TypeId} {base : Nat} {v : Value} {xs : List Value} (h : CurS w g S) (o : Own w base e v xs) (hg : w.grownBy w' v.ownBlock) (he1 : e ≠ 60) (he2 : 5 ≠ e) : CurS w' g S := by
  cases hv : v.ownBlock with
  | none =>
    rw [hv] at hg
    exact h.below ((Turns.of_none (T := []) hg).new (by simp))
  | some g' =>
    obtain ⟨cs, hB⟩ := o.row g' hv
    rw [hv] at hg
    obtain ⟨cs2, hC⟩ := h.blk
    exact h.keep hg hB (fun e' => by subst e'; exact Blk.ne_ hB hC he1 rfl) he2
theorem CurS.ok (h : CurS w g S) : S.ok := by
  intro l e
  subst e
  exact Cur.lt8 h
theorem CurS.of {l : List Nat} (h : Cur w g l false) : CurS w g (some l) := h
theorem CurS.len (h : CurS w g S) : (S.getD []).length ≤ 9223372036854775807 := by have := Cur.len h; unfold maxLen at this; omega
end
/-- A call at a cursor: its answer, and what is left. -/
def CPost (e0 : Ending) (g : Nat) (S : St) (w : World) (e : Ending) (w' : World) : Prop := e = e0 ∧ CurS w' g S ∧ w.grownBy w' (some g)
theorem failS {w : World} {g : Nat} {S : St} (h : CurS w g S) : Calls Try.prog 50 #[.pointer (some ⟨g, 0, none⟩)] w (CPost (.returned (.tuple #[])) g none w) := fail_any h
theorem badS {w : World} {g : Nat} {S : St} (h : CurS w g S) : Calls Try.prog 27 #[.pointer (some ⟨g, 0, none⟩)] w (BadPost S.isNone w) := bad_any h
theorem leftS {w : World} {g : Nat} {S : St} (h : CurS w g S) : Calls Try.prog 28 #[.pointer (some ⟨g, 0, none⟩)] w (LeftPost (S.getD []) w) := left_any h
theorem byteS_any {w : World} {g : Nat} {S : St} (h : CurS w g S) : Calls Try.prog 46 #[.pointer (some ⟨g, 0, none⟩)] w (CPost (.returned (.int .u8 ((byteS S).1 : Int))) g (byteS S).2 w) := by
  cases S with
  | none => exact byte_bad h (.inl rfl)
  | some l =>
    cases l with
    | nil => exact byte_bad h (.inr (by simp))
    | cons b r => exact byte_app h
def TPost (x : List Nat) (g : Nat) (S : St) (w : World) (e : Ending) (w' : World) : Prop :=
  ∃ A n c, e = .returned (.slice A n c) ∧ n = x.length ∧ Own w' w.heap.size 5 (.slice A n c) (nums .u8 x) ∧ CurS w' g S ∧ w.grownBy w' (some g)
theorem takeS_any {w : World} {g : Nat} {n : Int} {S : St} (h : CurS w g S) (h0 : -9223372036854775808 ≤ n) (h1 : n ≤ 140737488355328) : Calls Try.prog 48 #[.pointer (some ⟨g, 0, none⟩), .int .i64 n] w (TPost (takeS n S).1 g (takeS n S).2 w) := by
  rcases takeS_cases n S with hc | ⟨l, rfl, h2, h3, hc⟩
  · rw [hc]
    have hb : S.isNone = true ∨ n < 0 ∨ ((S.getD []).length : Int) < n := by
      unfold takeS at hc
      cases S with
      | none => exact .inl rfl
      | some l =>
        simp only at hc
        split at hc
        · simp at hc
        · rename_i hh
          simp only [Option.getD_some]
          omega
    refine (take_bad h hb h0 (by omega)).mono ?_
    rintro e w' ⟨rfl, k1, k2⟩
    exact ⟨none, 0, 0, rfl, rfl, Own.nil_, k1, k2⟩
  · rw [hc]
    obtain ⟨m, rfl⟩ := Int.eq_ofNat_of_zero_le h2
    simp only [Int.toNat_natCast]
    have hm : m ≤ l.length := by omega
    refine (take_good (l := l) (n := m) h hm (by omega)).mono ?_
    rintro e w' ⟨A, c, rfl, k1, k2, k3⟩
    exact ⟨A, m, c, rfl, by rw [List.length_take]; omega, k1, k2, k3⟩
theorem getS_any {w : World} {g : Nat} {S : St} (h : CurS w g S) : Calls Try.prog 51 #[.pointer (some ⟨g, 0, none⟩)] w (CPost (.returned (.int .u64 ((getS S).1 : Int))) g (getS S).2 w) := by
  rcases hc : getS S with ⟨v, T⟩
  have hok := h.ok
  cases S with
  | none =>
    simp only [getS, Prod.mk.injEq] at hc
    obtain ⟨rfl, rfl⟩ := hc
    exact get_no h (.inl rfl)
  | some l =>
    simp only [getS] at hc
    split at hc
    · rename_i N r hg
      obtain ⟨h1, h2⟩ := gv_some (hok l rfl) hg
      simp only [Prod.mk.injEq] at hc
      obtain ⟨rfl, rfl⟩ := hc
      subst h1
      exact get_app h h2
    · rename_i hg
      simp only [Prod.mk.injEq] at hc
      obtain ⟨rfl, rfl⟩ := hc
      exact get_no h (.inr (gv_none hg))
theorem lenS_any {w : World} {g : Nat} {m : Int} {S : St} (h : CurS w g S) (hm0 : -9223372036854775808 ≤ m) (hm : m ≤ 9223372036854775807) : Calls Try.prog 45 #[.pointer (some ⟨g, 0, none⟩), .int .i64 m] w (CPost (.returned (.int .i64 ((lenS m S).1 : Int))) g (lenS m S).2 w) := by
  have hok := h.ok
  by_cases hg : ∃ N r, S = some (vp N ++ r) ∧ (N : Int) ≤ m
  · obtain ⟨N, r, rfl, hN⟩ := hg
    rw [lenS_app N r hN hm]
    exact len_app h hN hm
  · have e : lenS m S = (0, none) := by
      rcases lenS_cases m S hok with h1 | ⟨N, r, h1, h2, _, _⟩
      · exact h1
      · exact absurd ⟨N, r, h1, h2⟩ hg
    rw [e]
    refine len_no h ?_ hm0 hm
    cases S with
    | none => exact .inl rfl
    | some l =>
      refine .inr fun N r hl => ?_
      simp only [Option.getD_some] at hl
      subst hl
      rcases Int.lt_or_le m N with h1 | h1
      · exact h1
      · exact absurd ⟨N, r, rfl, h1⟩ hg
def RCurS (w : World) (B g : Nat) (S : St) : Prop := RCur w B g (S.getD []) S.isNone

section
variable {w w' : World} {B g : Nat} {S : St}
theorem RCurS.lt (h : RCurS w B g S) : g < w.heap.size := RCur.lt h
theorem RCurS.ge (h : RCurS w B g S) : B ≤ g := RCur.ge h
theorem RCurS.below (h : RCurS w B g S) (hb : Below w.heap.size w w') : RCurS w' B g S := RCur.below h hb
theorem RCurS.keep {g' : Nat} (h : RCurS w B g S) (hg : w.grownBy w' (some g')) (hB : B ≤ g') (hne : g ≠ g') : RCurS w' B g S := RCur.keep h hg hB hne
theorem RCurS.blk (h : RCurS w B g S) : ∃ cs, Blk w g 49 cs := RCur.blk h
theorem RCurS.push {e : TypeId} {base : Nat} {v : Value} {xs : List Value} (h : RCurS w B g S) (o : Own w base e v xs) (hB : B ≤ base) (hg : w.grownBy w' v.ownBlock) (he : e ≠ 49) : RCurS w' B g S := by
  cases hv : v.ownBlock with
  | none =>
    rw [hv] at hg
    exact h.below ((Turns.of_none (T := []) hg).new (by simp))
  | some g' =>
    obtain ⟨cs, hC⟩ := h.blk
    have h1 := o.lt g' hv
    have h2 := o.blk_ne hC he
    rw [hv] at hg
    exact h.keep hg (by omega) (fun e' => by subst e'; exact h2 hv)
theorem RCurS.is (h : RCurS w B g S) : w.cell? ⟨g, 1, none⟩ = some (.bool S.isNone) := by
  obtain ⟨A, c, h1, _⟩ := h
  rw [h1.cell 1]; rfl
theorem RCurS.new {A : Option Addr} {c : Nat} {l : List Nat} (h : Reads w w.heap.size 1 A l.length (nums .u8 l)) (hc : l.length ≤ c) (hm : c ≤ maxLen) (h8 : ∀ x ∈ l, x < 256) :
    RCurS (w.alloc (.cells #[.slice A l.length c, .bool false] 49)) w.heap.size w.heap.size (some l) :=
  ⟨A, c, Blk.new _ _ _, hc, hm, h.alloc (Nat.le_refl _) _, Nat.le_refl _, h8⟩
theorem RCurS.ok (h : RCurS w B g S) : S.ok := by
  intro l e
  subst e
  exact RCur.lt8 h
theorem RCurS.of {l : List Nat} (h : RCur w B g l false) : RCurS w B g (some l) := h
end
def RSPost (e0 : Ending) (B g : Nat) (S : St) (w : World) (e : Ending) (w' : World) : Prop := e = e0 ∧ RCurS w' B g S ∧ w.grownBy w' (some g)
theorem rfailS {w : World} {B g : Nat} {S : St} (h : RCurS w B g S) : Calls Try.prog 52 #[.pointer (some ⟨g, 0, none⟩)] w (RSPost (.returned (.tuple #[])) B g none w) := rfail_any h
theorem rendS_any {w : World} {B g : Nat} {S : St} (h : RCurS w B g S) : Calls Try.prog 31 #[.pointer (some ⟨g, 0, none⟩)] w (BadPost (endS S) w) := by
  have := rend_any h
  have e : endS S = (!S.isNone && (S.getD []).isEmpty) := by
    cases S with
    | none => rfl
    | some l => cases l <;> simp [endS]
  rw [e]; exact this
def RTPost (x : List Nat) (B g : Nat) (S : St) (w : World) (e : Ending) (w' : World) : Prop :=
  ∃ A n c, e = .returned (.slice A n c) ∧ n = x.length ∧ Own w' w.heap.size 5 (.slice A n c) (nums .u8 x) ∧ RCurS w' B g S ∧ w.grownBy w' (some g)
theorem rtakeS_any {w : World} {B g : Nat} {n : Int} {S : St} (h : RCurS w B g S) (h0 : -9223372036854775808 ≤ n) (h1 : n ≤ 140737488355200) : Calls Try.prog 35 #[.pointer (some ⟨g, 0, none⟩), .int .i64 n] w (RTPost (takeS n S).1 B g (takeS n S).2 w) := by
  rcases takeS_cases n S with hc | ⟨l, rfl, h2, h3, hc⟩
  · rw [hc]
    have hb : S.isNone = true ∨ n < 0 ∨ ((S.getD []).length : Int) < n := by
      unfold takeS at hc
      cases S with
      | none => exact .inl rfl
      | some l =>
        simp only at hc
        split at hc
        · simp at hc
        · rename_i hh
          simp only [Option.getD_some]
          omega
    refine (rtake_bad h hb h0 (by omega)).mono ?_
    rintro e w' ⟨rfl, k1, k2⟩
    exact ⟨none, 0, 0, rfl, rfl, Own.nil_, k1, k2⟩
  · rw [hc]
    obtain ⟨m, rfl⟩ := Int.eq_ofNat_of_zero_le h2
    simp only [Int.toNat_natCast]
    have hm : m ≤ l.length := by omega
    refine (rtake_good (l := l) (n := m) h hm (by omega)).mono ?_
    rintro e w' ⟨A, c, rfl, k1, k2, k3⟩
    exact ⟨A, m, c, rfl, by rw [List.length_take]; omega, k1, k2, k3⟩
theorem rgetS_any {w : World} {B g : Nat} {S : St} (h : RCurS w B g S) : Calls Try.prog 33 #[.pointer (some ⟨g, 0, none⟩)] w (RSPost (.returned (.int .u64 ((getS S).1 : Int))) B g (getS S).2 w) := by
  rcases hc : getS S with ⟨v, T⟩
  have hok := h.ok
  cases S with
  | none =>
    simp only [getS, Prod.mk.injEq] at hc
    obtain ⟨rfl, rfl⟩ := hc
    exact rget_no h (.inl rfl)
  | some l =>
    simp only [getS] at hc
    split at hc
    · rename_i N r hg
      obtain ⟨h1, h2⟩ := gv_some (hok l rfl) hg
      simp only [Prod.mk.injEq] at hc
      obtain ⟨rfl, rfl⟩ := hc
      subst h1
      exact rget_app h h2
    · rename_i hg
      simp only [Prod.mk.injEq] at hc
      obtain ⟨rfl, rfl⟩ := hc
      exact rget_no h (.inr (gv_none hg))
theorem rlenS_any {w : World} {B g : Nat} {m : Int} {S : St} (h : RCurS w B g S) (hm0 : -9223372036854775808 ≤ m) (hm : m ≤ 9223372036854775807) : Calls Try.prog 32 #[.pointer (some ⟨g, 0, none⟩), .int .i64 m] w (RSPost (.returned (.int .i64 ((lenS m S).1 : Int))) B g (lenS m S).2 w) := by
  have hok := h.ok
  by_cases hg : ∃ N r, S = some (vp N ++ r) ∧ (N : Int) ≤ m
  · obtain ⟨N, r, rfl, hN⟩ := hg
    rw [lenS_app N r hN hm]
    exact rlen_app h hN hm
  · have e : lenS m S = (0, none) := by
      rcases lenS_cases m S hok with h1 | ⟨N, r, h1, h2, _, _⟩
      · exact h1
      · exact absurd ⟨N, r, h1, h2⟩ hg
    rw [e]
    refine rlen_no h ?_ hm0 hm
    cases S with
    | none => exact .inl rfl
    | some l =>
      refine .inr fun N r hl => ?_
      simp only [Option.getD_some] at hl
      subst hl
      rcases Int.lt_or_le m N with h1 | h1
      · exact h1
      · exact absurd ⟨N, r, rfl, h1⟩ hg
theorem rbyteS_any {w : World} {B g : Nat} {S : St} (h : RCurS w B g S) : Calls Try.prog 34 #[.pointer (some ⟨g, 0, none⟩), .int .i64 1] w (RSPost (.returned (.int .u64 ((byteS S).1 : Int))) B g (byteS S).2 w) := by
  cases S with
  | none => exact rnum_bad (n := 1) h (.inl rfl) (by omega) (by omega)
  | some l =>
    cases l with
    | nil => exact rnum_bad (n := 1) h (.inr (.inr (by simp))) (by omega) (by omega)
    | cons b r =>
      have := rnum_good (l := b :: r) 1 h (by simp) (by omega)
      simp only [List.take_succ_cons, List.take_zero, num, Nat.mul_zero, Nat.add_zero, List.drop_succ_cons, List.drop_zero] at this
      exact this

end Go.Proofs.Ytlelepopdjoedaa
