/- Runs and rests, over plain lists: what layer 10 says. No program is named here. -/
import Derived.Test.YtlelepopdjoedaaSpec

namespace Go.Hm
/-- How many equal numbers a row begins with. -/
def st (l : List Nat) : Nat := (l.takeWhile fun y => y == l.getD 0 0).length
theorem tw_is (p : Nat → Bool) : ∀ (l : List Nat) (n : Nat), n ≤ l.length → (∀ i, i < n → p (l.getD i 0) = true) → (n = l.length ∨ p (l.getD n 0) = false) → (l.takeWhile p).length = n
  | [], n, h1, _, _ => by simp at h1; simp [h1]
  | x :: r, 0, _, _, h3 => by
    rcases h3 with h3 | h3
    · simp at h3
    · have : p x = false := by simpa using h3
      simp [this]
  | x :: r, n + 1, h1, h2, h3 => by
    have hx : p x = true := by simpa using h2 0 (by omega)
    rw [List.takeWhile_cons, if_pos hx, List.length_cons, tw_is p r n (by simpa using h1) (fun i hi => by simpa using h2 (i + 1) (by omega)) (by simpa using h3)]
theorem st_is {l : List Nat} {n : Nat} (h1 : n ≤ l.length) (h2 : ∀ i, i < n → l.getD i 0 = l.getD 0 0) (h3 : n = l.length ∨ l.getD n 0 ≠ l.getD 0 0) : st l = n :=
  tw_is _ l n h1 (fun i hi => by simpa using h2 i hi) (h3.imp id fun h => by simpa using h)
theorem tw_spec (p : Nat → Bool) : ∀ l : List Nat, (l.takeWhile p).length ≤ l.length ∧ (∀ i, i < (l.takeWhile p).length → p (l.getD i 0) = true) ∧ ((l.takeWhile p).length = l.length ∨ p (l.getD (l.takeWhile p).length 0) = false)
  | [] => by simp
  | x :: r => by
    obtain ⟨a, b, c⟩ := tw_spec p r
    by_cases hx : p x = true
    · rw [List.takeWhile_cons, if_pos hx, List.length_cons]
      refine ⟨by simpa using a, fun i hi => ?_, by simpa using c⟩
      cases i with
      | zero => simpa using hx
      | succ i => simpa using b i (by omega)
    · rw [List.takeWhile_cons, if_neg hx]
      refine ⟨by simp, by simp, .inr (by simpa using hx)⟩
theorem st_spec (l : List Nat) : st l ≤ l.length ∧ (∀ i, i < st l → l.getD i 0 = l.getD 0 0) ∧ (st l = l.length ∨ l.getD (st l) 0 ≠ l.getD 0 0) := by
  obtain ⟨a, b, c⟩ := tw_spec (fun y => y == l.getD 0 0) l
  exact ⟨a, fun i hi => by simpa using b i hi, c.imp id fun h => by unfold st; simpa using h⟩
theorem st_pos {l : List Nat} (h : 0 < l.length) : 1 ≤ st l := by
  obtain ⟨a, b, c⟩ := st_spec l
  rcases Nat.eq_zero_or_pos (st l) with h0 | h0
  · rw [h0] at c
    rcases c with c | c
    · omega
    · exact absurd rfl c
  · exact h0
theorem getD_app_l {l m : List Nat} {i : Nat} (h : i < l.length) : (l ++ m).getD i 0 = l.getD i 0 := by
  simp [List.getD_eq_getElem?_getD, List.getElem?_append_left h]
theorem getD_app_r {l m : List Nat} {i : Nat} (h : l.length ≤ i) : (l ++ m).getD i 0 = m.getD (i - l.length) 0 := by
  simp [List.getD_eq_getElem?_getD, List.getElem?_append_right h]
theorem getD_take' {l : List Nat} {i k : Nat} (h : i < k) : (l.take k).getD i 0 = l.getD i 0 := by
  simp [List.getD_eq_getElem?_getD, h]
theorem getD_drop' {l : List Nat} {i k : Nat} : (l.drop k).getD i 0 = l.getD (k + i) 0 := by
  simp [List.getD_eq_getElem?_getD]
/-- A part that is long enough begins with as many. -/
theorem st_app {l m : List Nat} (h : st (l ++ m) ≤ l.length) (h0 : 0 < l.length) : st l = st (l ++ m) := by
  obtain ⟨a, b, c⟩ := st_spec (l ++ m)
  refine st_is h (fun i hi => ?_) ?_
  · have := b i hi
    rwa [getD_app_l (by omega), getD_app_l h0] at this
  · by_cases e : st (l ++ m) = l.length
    · exact .inl e
    · rcases c with c | c
      · rw [c, List.length_append] at h e
        omega
      · rw [getD_app_l (by omega), getD_app_l h0] at c
        exact .inr c
theorem st_le_app {l m : List Nat} : st l ≤ st (l ++ m) := by
  rcases Nat.eq_zero_or_pos l.length with h0 | h0
  · have := (st_spec l).1
    omega
  by_cases h : st (l ++ m) ≤ l.length
  · exact Nat.le_of_eq (st_app h h0)
  · have := (st_spec l).1
    omega
/-- The run that a row begins with. -/
theorem st_take (l : List Nat) : st (l.take (st l)) = st l := by
  obtain ⟨a, b, c⟩ := st_spec l
  have hl : (l.take (st l)).length = st l := by rw [List.length_take]; omega
  rcases Nat.eq_zero_or_pos (st l) with h0 | h0
  · have := (st_spec (l.take (st l))).1
    omega
  · refine st_is (by omega) (fun i hi => ?_) (.inl hl.symm)
    rw [getD_take' hi, getD_take' h0]
    exact b i hi
theorem run_rep {p : List Nat} (h : st p = p.length) : p = List.replicate p.length (p.getD 0 0) := by
  obtain ⟨a, b, c⟩ := st_spec p
  refine List.ext_getElem (by simp) fun i h1 h2 => ?_
  have := b i (by omega)
  rw [List.getD_eq_getElem?_getD, List.getElem?_eq_getElem h1] at this
  simpa using this
theorem st_rep (n x : Nat) : st (List.replicate n x) = n := by
  refine st_is (by simp) (fun i hi => ?_) (.inl (by simp))
  have h0 : 0 < n := by omega
  simp [List.getD_eq_getElem?_getD, hi, h0]
/-- Runs and rests, rest being what is in no piece yet. -/
def cutP (rest l : List Nat) : List (List Nat) :=
  if _h : l.length = 0 then (if rest.length = 0 then [] else [rest])
  else if 4 ≤ st l then (if rest.length = 0 then [] else [rest]) ++ (l.take (st l) :: cutP [] (l.drop (st l)))
  else cutP (rest ++ l.take (st l)) (l.drop (st l))
termination_by l.length
decreasing_by
  · have := st_pos (l := l) (by omega)
    rw [List.length_drop]
    omega
  · have := st_pos (l := l) (by omega)
    rw [List.length_drop]
    omega
def pcs (l : List Nat) : List (List Nat) := cutP [] l
def cuts (l : List Nat) : List Nat := (pcs l).map List.length
def restL (rest : List Nat) : List (List Nat) := if rest.length = 0 then [] else [rest]
theorem cutP_nil (rest : List Nat) : cutP rest [] = restL rest := by rw [cutP]; rfl
theorem cutP_run {rest l : List Nat} (h0 : 0 < l.length) (h : 4 ≤ st l) : cutP rest l = restL rest ++ (l.take (st l) :: cutP [] (l.drop (st l))) := by
  rw [cutP, dif_neg (by omega), if_pos h]; rfl
theorem cutP_rest {rest l : List Nat} (h0 : 0 < l.length) (h : ¬ 4 ≤ st l) : cutP rest l = cutP (rest ++ l.take (st l)) (l.drop (st l)) := by
  rw [cutP, dif_neg (by omega), if_neg h]
/-- By stretches. -/
theorem cut_ind {C : List Nat → List Nat → Prop} (h0 : ∀ rest, C rest [])
    (h1 : ∀ rest l, 0 < l.length → 4 ≤ st l → C [] (l.drop (st l)) → C rest l)
    (h2 : ∀ rest l, 0 < l.length → ¬ 4 ≤ st l → C (rest ++ l.take (st l)) (l.drop (st l)) → C rest l) : ∀ rest l, C rest l := by
  intro rest l
  induction hn : l.length using Nat.strongRecOn generalizing rest l with
  | _ n ih =>
    rcases Nat.eq_zero_or_pos l.length with hz | hz
    · obtain rfl := List.eq_nil_of_length_eq_zero hz
      exact h0 rest
    · have hp := st_pos hz
      have hd : (l.drop (st l)).length < n := by rw [List.length_drop]; omega
      by_cases h : 4 ≤ st l
      · exact h1 rest l hz h (ih _ hd _ _ rfl)
      · exact h2 rest l hz h (ih _ hd _ _ rfl)
theorem restL_flat (rest : List Nat) : (restL rest).flatten = rest := by
  unfold restL
  split
  · rename_i h
    exact (List.eq_nil_of_length_eq_zero h).symm
  · simp
theorem cutP_flat : ∀ rest l, (cutP rest l).flatten = rest ++ l := by
  refine cut_ind ?_ ?_ ?_
  · intro rest
    rw [cutP_nil, restL_flat, List.append_nil]
  · intro rest l h0 h ih
    rw [cutP_run h0 h, List.flatten_append, restL_flat, List.flatten_cons, ih, List.nil_append, List.take_append_drop]
  · intro rest l h0 h ih
    rw [cutP_rest h0 h, ih, List.append_assoc, List.take_append_drop]
/-- What a piece is: a run, or begins with none. -/
def PieceOk (p : List Nat) : Prop := 0 < p.length ∧ (4 ≤ st p → st p = p.length)
theorem cutP_ok : ∀ rest l, (rest = [] ∨ st (rest ++ l) < 4) → ∀ p ∈ cutP rest l, PieceOk p := by
  have hr : ∀ rest l : List Nat, (rest = [] ∨ st (rest ++ l) < 4) → ∀ p ∈ restL rest, PieceOk p := by
    intro rest l hc p hp
    unfold restL at hp
    split at hp
    · cases hp
    · rename_i hl
      obtain rfl := List.mem_singleton.1 hp
      refine ⟨by omega, fun h4 => ?_⟩
      rcases hc with rfl | hc
      · simp at hl
      · have := st_le_app (l := p) (m := l)
        omega
  refine cut_ind ?_ ?_ ?_
  · intro rest hc p hp
    rw [cutP_nil] at hp
    exact hr rest [] hc p hp
  · intro rest l h0 h ih hc p hp
    rw [cutP_run h0 h] at hp
    rcases List.mem_append.1 hp with hp | hp
    · exact hr rest l hc p hp
    · rcases List.mem_cons.1 hp with rfl | hp
      · have hl : (l.take (st l)).length = st l := by have := (st_spec l).1; rw [List.length_take]; omega
        exact ⟨by omega, fun _ => by rw [st_take, hl]⟩
      · exact ih (.inl rfl) p hp
  · intro rest l h0 h ih hc p hp
    rw [cutP_rest h0 h] at hp
    refine ih (.inr ?_) p hp
    rw [List.append_assoc, List.take_append_drop]
    rcases hc with rfl | hc
    · simpa using h
    · exact hc
theorem pcs_ok (l : List Nat) : ∀ p ∈ pcs l, PieceOk p := cutP_ok [] l (.inl rfl)
theorem pcs_flat (l : List Nat) : (pcs l).flatten = l := cutP_flat [] l

end Go.Hm
