/- Null bitmaps: plain lists. -/
import Derived.Test.YtgjllfcnbkennaaCellS
import Derived.Test.YtgjllfcnbkennaaPackO

namespace Go.Hm
open Go Go.RowKit
def notN (c : CellS) : Nat := if c.1 then 0 else 1
/-- Which cells are there. -/
def marksN (l : List CellS) : List Nat := l.map notN
/-- The cells that are there. -/
def valsN (l : List CellS) : List CellS := l.filter fun c => !c.1
def nullC : CellS := (true, 0, [], 0, 0)
theorem marks_len (l : List CellS) : (marksN l).length = l.length := by simp [marksN]
theorem marks_le (l : List CellS) : ∀ x ∈ marksN l, x < 2 ^ 1 := by
  intro x hx
  obtain ⟨c, _, rfl⟩ := List.mem_map.1 hx
  unfold notN
  split <;> decide
theorem marks_snoc (l : List CellS) (k : Nat) (h : k < l.length) : marksN (l.take (k + 1)) = marksN (l.take k) ++ [notN (l.getD k (false, 0, [], 0, 0))] := by
  rw [take_snoc l k (false, 0, [], 0, 0) h, marksN, List.map_append]; rfl
theorem vals_snoc (l : List CellS) (k : Nat) (h : k < l.length) : valsN (l.take (k + 1)) = valsN (l.take k) ++ (if (l.getD k (false, 0, [], 0, 0)).1 then [] else [l.getD k (false, 0, [], 0, 0)]) := by
  rw [take_snoc l k (false, 0, [], 0, 0) h, valsN, List.filter_append]
  congr 1
  generalize l.getD k (false, 0, [], 0, 0) = c
  cases hh : c.1 <;> simp [hh]
theorem vals_len (l : List CellS) : (valsN l).length ≤ l.length := List.length_filter_le _ _
/-- How many marks there are. -/
def cntN (o : Option (List Nat)) : Int := match o with | none => -1 | some m => (m.sum : Nat)
def joinL : List Nat → List CellS → Option (List CellS)
  | [], _ => some []
  | x :: m, r => if x = 0 then (joinL m r).map (nullC :: ·) else match r with
    | [] => none
    | c :: r => if c.1 then none else (joinL m r).map (c :: ·)
theorem joinL_cons (x : Nat) (m : List Nat) (r : List CellS) : joinL (x :: m) r = if x = 0 then (joinL m r).map (nullC :: ·) else match r with
    | [] => none
    | c :: r => if c.1 then none else (joinL m r).map (c :: ·) := by
  cases r <;> rfl
/-- What is joined. -/
def joinO (o : Option (List Nat)) (r : List CellS) : Option (List CellS) := match o with | none => none | some m => if m.sum = r.length then joinL m r else none
theorem joinL_step {m : List Nat} {r : List CellS} {k q : Nat} (hk : k < m.length) : joinL (m.drop k) (r.drop q) =
    if m.getD k 0 = 0 then (joinL (m.drop (k + 1)) (r.drop q)).map (nullC :: ·) else match r.drop q with
    | [] => none
    | c :: r' => if c.1 then none else (joinL (m.drop (k + 1)) r').map (c :: ·) := by
  rw [drop_cons_getD m k 0 hk]
  cases r.drop q <;> rfl
theorem joinL_val {m : List Nat} {r : List CellS} {k q : Nat} (hk : k < m.length) (h0 : ¬ m.getD k 0 = 0) (hq : q < r.length) : joinL (m.drop k) (r.drop q) =
    if (r.getD q (false, 0, [], 0, 0)).1 then none else (joinL (m.drop (k + 1)) (r.drop (q + 1))).map (r.getD q (false, 0, [], 0, 0) :: ·) := by
  rw [joinL_step hk, if_neg h0, drop_cons_getD r q (false, 0, [], 0, 0) hq]
theorem joinL_end {m : List Nat} {r : List CellS} {q : Nat} : joinL (m.drop m.length) (r.drop q) = some [] := by
  rw [List.drop_length]
  rfl
theorem sum_take {m : List Nat} {k : Nat} (hk : k < m.length) : (m.take (k + 1)).sum = (m.take k).sum + m.getD k 0 := by
  rw [take_snoc m k 0 hk]; simp
theorem sum_take_le {m : List Nat} (k : Nat) : (m.take k).sum ≤ m.sum := by
  have := congrArg List.sum (List.take_append_drop k m)
  rw [List.sum_append] at this
  omega
theorem sum_vals (l : List CellS) : (marksN l).sum = (valsN l).length := by
  induction l with
  | nil => rfl
  | cons c l ih =>
    cases h : c.1 <;> simp [marksN, valsN, notN, h] at ih ⊢ <;> omega
/-- A null is otherwise zero then. -/
def zeroN (c : CellS) : CellS := if c.1 then nullC else c
theorem join_split (l : List CellS) : joinL (marksN l) (valsN l) = some (l.map zeroN) := by
  induction l with
  | nil => rfl
  | cons c l ih =>
    cases h : c.1
    · have e1 : marksN (c :: l) = 1 :: marksN l := by simp [marksN, notN, h]
      have e2 : valsN (c :: l) = c :: valsN l := by simp [valsN, h]
      rw [e1, e2, joinL_cons, if_neg (by omega)]
      simp only [h, Bool.false_eq_true, if_false]
      rw [ih]
      simp [zeroN, h]
    · have e1 : marksN (c :: l) = 0 :: marksN l := by simp [marksN, notN, h]
      have e2 : valsN (c :: l) = valsN l := by simp [valsN, h]
      rw [e1, e2, joinL_cons, if_pos rfl, ih]
      simp [zeroN, h]
/-- What was joined is split as it was. -/
theorem split_join : ∀ (m : List Nat) (r x : List CellS), (∀ y ∈ m, y < 2 ^ 1) → m.sum = r.length → joinL m r = some x → marksN x = m ∧ valsN x = r ∧ x.length = m.length
  | [], r, x, _, hs, h => by
    simp [joinL] at h
    subst h
    have : r = [] := List.length_eq_zero_iff.1 (by simpa using hs.symm)
    subst this
    exact ⟨rfl, rfl, rfl⟩
  | y :: m, r, x, hm, hs, h => by
    rw [joinL_cons] at h
    have hy := hm y (by simp)
    have hm' : ∀ z ∈ m, z < 2 ^ 1 := fun z hz => hm z (by simp [hz])
    split at h
    · rename_i h0
      subst h0
      cases hj : joinL m r with
      | none => rw [hj] at h; cases h
      | some x' =>
        rw [hj] at h
        simp at h
        subst h
        obtain ⟨a, b, c⟩ := split_join m r x' hm' (by simpa using hs) hj
        exact ⟨by simp [marksN, nullC, notN] at a ⊢; exact a, by simp [valsN, nullC] at b ⊢; exact b, by simp [c]⟩
    · rename_i h0
      have hy1 : y = 1 := by omega
      subst hy1
      cases r with
      | nil => simp at h
      | cons c r =>
        simp only at h
        split at h
        · cases h
        · rename_i hc
          cases hj : joinL m r with
          | none => rw [hj] at h; cases h
          | some x' =>
            rw [hj] at h
            simp at h
            subst h
            have hc' : c.1 = false := by simpa using hc
            obtain ⟨a, b, d⟩ := split_join m r x' hm' (by simp at hs; omega) hj
            exact ⟨by simp [marksN, notN, hc'] at a ⊢; exact a, by simp [valsN, hc'] at b ⊢; exact b, by simp [d]⟩

end Go.Hm

namespace Go.Proofs.Ytgjllfcnbkennaa
open Go.RowKit Go.Hm
theorem marks_wid (l : List CellS) : wid (marksN l) ≤ 1 ∧ ∀ x ∈ marksN l, x ≤ 18446744073709551615 := by
  have hb : ∀ x ∈ marksN l, x ≤ 18446744073709551615 := fun x hx => by have := marks_le l x hx; omega
  exact ⟨(wid_iff _ 1 (by omega) hb).2 (marks_le l), hb⟩
/-- The bits of cells. -/
def splitB (l : List CellS) : List Nat := low (pk 1 (marksN l)) ((1 * (marksN l).length + 7) / 8)
theorem split_pack {l : List CellS} (hl : l.length ≤ 65536) : packO (marksN l) 1 = some (splitB l) := packO_some (marksN l) 1 (by omega) (by rw [marks_len]; exact hl) (marks_wid l).1
theorem split_unpack {l : List CellS} (hl : l.length ≤ 65536) : unpackO (splitB l) 1 (l.length : Int) = some (marksN l) := by
  have := unpack_pack (marksN l) 1 (by omega) (by rw [marks_len]; exact hl) (marks_wid l).1 (marks_wid l).2
  rw [marks_len] at this
  unfold splitB
  rw [marks_len]
  exact this
theorem unpack1 {b m : List Nat} {n : Int} (h8 : ∀ x ∈ b, x < 256) (h : unpackO b 1 n = some m) : packO m 1 = some b ∧ (m.length : Int) = n ∧ (∀ y ∈ m, y < 2 ^ 1) ∧ m.length ≤ 65536 := by
  obtain ⟨h1, h2, h3, h4, h5⟩ := pack_unpack h8 h
  exact ⟨h1, h2, (wid_iff m 1 (by omega) h4).1 (by omega), h5⟩

end Go.Proofs.Ytgjllfcnbkennaa
