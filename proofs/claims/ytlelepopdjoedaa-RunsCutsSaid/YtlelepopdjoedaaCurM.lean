/- What is read off bytes, step by step, as plain functions: the state is what is left, or none if bad. No program is named here. -/
import Derived.Test.YtlelepopdjoedaaSpec

namespace Go.Hm
theorem vq_lt {N b : Nat} {r s : List Nat} (h : b :: s = vp N ++ r) (hb : b < 128) : N = b ∧ r = s := by
  by_cases hN : N < 128
  · rw [vp_lt hN] at h; simp at h; exact ⟨h.1.symm, h.2.symm⟩
  · rw [vp_ge hN] at h; simp at h; omega
theorem vq_ge {N b : Nat} {r s : List Nat} (h : b :: s = vp N ++ r) (hb : 128 ≤ b) : N % 128 + 128 = b ∧ 0 < N / 128 ∧ s = vp (N / 128) ++ r := by
  by_cases hN : N < 128
  · rw [vp_lt hN] at h; simp at h; omega
  · rw [vp_ge hN] at h; simp at h; exact ⟨h.1.symm, by omega, h.2⟩
/-- A number of at most f bytes. -/
def pv : Nat → List Nat → Option (Nat × List Nat)
  | 0, _ => none
  | _ + 1, [] => none
  | f + 1, b :: r => if b < 128 then some (b, r) else
      match pv f r with
      | some (0, _) => none
      | some (N + 1, r') => some (b - 128 + 128 * (N + 1), r')
      | none => none
theorem pv_app : ∀ (f N : Nat) (r : List Nat), (vp N).length ≤ f → pv f (vp N ++ r) = some (N, r) := by
  intro f
  induction f with
  | zero => intro N r h; have := vp_pos N; omega
  | succ f ih =>
    intro N r h
    by_cases hN : N < 128
    · rw [vp_lt hN]; simp [pv, hN]
    · rw [vp_ge hN] at h ⊢
      simp only [List.cons_append, pv]
      rw [if_neg (by omega), ih (N / 128) r (by simpa using h)]
      obtain ⟨m, hm⟩ : ∃ m, N / 128 = m + 1 := ⟨N / 128 - 1, by omega⟩
      simp only [hm]
      congr 2
      omega
theorem pv_some : ∀ (f N : Nat) (l r : List Nat), (∀ x ∈ l, x < 256) → pv f l = some (N, r) → l = vp N ++ r ∧ (vp N).length ≤ f := by
  intro f
  induction f with
  | zero => intro N l r _ h; simp [pv] at h
  | succ f ih =>
    intro N l r h8 h
    cases l with
    | nil => simp [pv] at h
    | cons b s =>
      simp only [pv] at h
      by_cases hb : b < 128
      · rw [if_pos hb] at h
        simp only [Option.some.injEq, Prod.mk.injEq] at h
        obtain ⟨rfl, rfl⟩ := h
        rw [vp_lt hb]; simp
      · rw [if_neg hb] at h
        split at h
        · simp at h
        · rename_i M r' hM
          simp only [Option.some.injEq, Prod.mk.injEq] at h
          obtain ⟨rfl, rfl⟩ := h
          obtain ⟨h1, h2⟩ := ih _ _ _ (fun x hx => h8 x (by simp [hx])) hM
          have hb2 := h8 b (by simp)
          rw [vp_ge (by omega), show (b - 128 + 128 * (M + 1)) / 128 = M + 1 by omega, show (b - 128 + 128 * (M + 1)) % 128 + 128 = b by omega, List.cons_append, ← h1]
          refine ⟨rfl, by simp; exact h2⟩
        · simp at h
/-- The number that l begins with, and what is behind it. -/
def gv (l : List Nat) : Option (Nat × List Nat) :=
  match pv 10 l with
  | some (N, r) => if N < 18446744073709551616 then some (N, r) else none
  | none => none
theorem gv_app (N : Nat) (r : List Nat) (hN : N < 18446744073709551616) : gv (vp N ++ r) = some (N, r) := by
  unfold gv
  rw [pv_app 10 N r (vp_len10 hN)]
  simp [hN]
theorem gv_some {l r : List Nat} {N : Nat} (h8 : ∀ x ∈ l, x < 256) (h : gv l = some (N, r)) : l = vp N ++ r ∧ N < 18446744073709551616 := by
  unfold gv at h
  split at h
  · rename_i M s hM
    split at h
    · simp only [Option.some.injEq, Prod.mk.injEq] at h
      obtain ⟨rfl, rfl⟩ := h
      exact ⟨(pv_some _ _ _ _ h8 hM).1, ‹_›⟩
    · cases h
  · cases h
theorem gv_none {l : List Nat} (h : gv l = none) : ∀ N r, l = vp N ++ r → 18446744073709551616 ≤ N := by
  intro N r hl
  rcases Nat.lt_or_ge N 18446744073709551616 with hN | hN
  · rw [hl, gv_app N r hN] at h
    cases h
  · exact hN

/-- The states: what is left; none: bad. -/
abbrev St := Option (List Nat)
def getS : St → Nat × St
  | none => (0, none)
  | some l => match gv l with
    | some (N, r) => (N, some r)
    | none => (0, none)
def lenS (m : Int) (S : St) : Nat × St :=
  match getS S with
  | (N, some r) => if (N : Int) ≤ m then (N, some r) else (0, none)
  | (_, none) => (0, none)
def byteS : St → Nat × St
  | some (b :: r) => (b, some r)
  | _ => (0, none)
def takeS (n : Int) : St → List Nat × St
  | some l => if 0 ≤ n ∧ n ≤ (l.length : Int) then (l.take n.toNat, some (l.drop n.toNat)) else ([], none)
  | none => ([], none)
def endS (S : St) : Bool := decide (S = some [])
/-- All that is left are bytes. -/
def St.ok (S : St) : Prop := ∀ l, S = some l → ∀ x ∈ l, x < 256
theorem St.ok_none : St.ok none := fun _ h => by cases h
theorem St.ok_some {l : List Nat} (h : ∀ x ∈ l, x < 256) : St.ok (some l) := fun _ e => by injection e with e; subst e; exact h

theorem getS_app (N : Nat) (r : List Nat) (hN : N < 18446744073709551616) : getS (some (vp N ++ r)) = (N, some r) := by simp [getS, gv_app N r hN]
theorem lenS_app (N : Nat) (r : List Nat) {m : Int} (hN : (N : Int) ≤ m) (hm : m ≤ 9223372036854775807) : lenS m (some (vp N ++ r)) = (N, some r) := by
  simp only [lenS, getS_app N r (by omega), if_pos hN]
theorem lenS_none (m : Int) : lenS m none = (0, none) := rfl
theorem getS_none : getS none = (0, none) := rfl
theorem byteS_none : byteS none = (0, none) := rfl
theorem takeS_none (n : Int) : takeS n none = ([], none) := rfl
theorem lenS_cases (m : Int) (S : St) (hS : S.ok) : lenS m S = (0, none) ∨ ∃ N r, S = some (vp N ++ r) ∧ (N : Int) ≤ m ∧ N < 18446744073709551616 ∧ lenS m S = (N, some r) := by
  unfold lenS getS
  cases S with
  | none => exact .inl rfl
  | some l =>
    simp only
    cases hg : gv l with
    | none => exact .inl rfl
    | some p =>
      obtain ⟨N, r⟩ := p
      obtain ⟨h1, h2⟩ := gv_some (hS l rfl) hg
      simp only
      split
      · exact .inr ⟨N, r, by rw [h1], ‹_›, h2, rfl⟩
      · exact .inl rfl
theorem getS_cases (S : St) (hS : S.ok) : getS S = (0, none) ∨ ∃ N r, S = some (vp N ++ r) ∧ N < 18446744073709551616 ∧ getS S = (N, some r) := by
  unfold getS
  cases S with
  | none => exact .inl rfl
  | some l =>
    simp only
    cases hg : gv l with
    | none => exact .inl rfl
    | some p =>
      obtain ⟨N, r⟩ := p
      obtain ⟨h1, h2⟩ := gv_some (hS l rfl) hg
      exact .inr ⟨N, r, by rw [h1], h2, rfl⟩
theorem takeS_cases (n : Int) (S : St) : takeS n S = ([], none) ∨ ∃ l, S = some l ∧ 0 ≤ n ∧ n ≤ (l.length : Int) ∧ takeS n S = (l.take n.toNat, some (l.drop n.toNat)) := by
  unfold takeS
  cases S with
  | none => exact .inl rfl
  | some l =>
    simp only
    split
    · rename_i h; exact .inr ⟨l, rfl, h.1, h.2, rfl⟩
    · exact .inl rfl
theorem takeS_app (a b : List Nat) : takeS (a.length : Int) (some (a ++ b)) = (a, some b) := by
  simp only [takeS]
  rw [if_pos ⟨by omega, by rw [List.length_append]; omega⟩]
  simp
theorem lenS_le {m : Int} (S : St) (hm : 0 ≤ m) (hS : S.ok) : ((lenS m S).1 : Int) ≤ m := by
  rcases lenS_cases m S hS with h | ⟨N, r, _, h1, _, h⟩
  · rw [h]; exact hm
  · rw [h]; exact h1
theorem lenS_ok {m : Int} {S : St} (hS : S.ok) : (lenS m S).2.ok := by
  rcases lenS_cases m S hS with h | ⟨N, r, h0, _, _, h⟩
  · rw [h]; exact St.ok_none
  · rw [h]; exact St.ok_some fun x hx => hS _ h0 x (by simp [hx])
theorem getS_ok {S : St} (hS : S.ok) : (getS S).2.ok := by
  rcases getS_cases S hS with h | ⟨N, r, h0, _, h⟩
  · rw [h]; exact St.ok_none
  · rw [h]; exact St.ok_some fun x hx => hS _ h0 x (by simp [hx])
theorem getS_lt {S : St} (hS : S.ok) : (getS S).1 < 18446744073709551616 := by
  rcases getS_cases S hS with h | ⟨N, r, h0, h1, h⟩
  · rw [h]; decide
  · rw [h]; exact h1
theorem byteS_ok {S : St} (hS : S.ok) : (byteS S).2.ok := by
  unfold byteS
  split
  · exact St.ok_some fun x hx => hS _ rfl x (by simp [hx])
  · exact St.ok_none
theorem byteS_lt {S : St} (hS : S.ok) : (byteS S).1 < 256 := by
  unfold byteS
  split
  · exact hS _ rfl _ (by simp)
  · decide
theorem takeS_ok {n : Int} {S : St} (hS : S.ok) : (takeS n S).2.ok ∧ ∀ x ∈ (takeS n S).1, x < 256 := by
  rcases takeS_cases n S with h | ⟨l, h0, _, _, h⟩
  · rw [h]; exact ⟨St.ok_none, by simp⟩
  · rw [h]; exact ⟨St.ok_some fun x hx => hS _ h0 x (List.mem_of_mem_drop hx), fun x hx => hS _ h0 x (List.mem_of_mem_take hx)⟩
theorem takeS_len {n : Int} {S : St} (hn : 0 ≤ n) : ((takeS n S).1.length : Int) ≤ n := by
  rcases takeS_cases n S with h | ⟨l, _, h1, h2, h⟩
  · rw [h]; simpa using hn
  · rw [h, List.length_take]; omega

end Go.Hm
