/- Neighbours of runs and rests: plain lists. -/
import Derived.Test.YtlelepopdjoedaaRunM

namespace Go.Hm
/-- No four that are equal stand side by side. -/
def nf (p : List Nat) : Prop := ∀ k, k + 3 < p.length → ¬ (p.getD k 0 = p.getD (k + 1) 0 ∧ p.getD k 0 = p.getD (k + 2) 0 ∧ p.getD k 0 = p.getD (k + 3) 0)
theorem nf_app {a t : List Nat} (h : nf a) (ht : t.length ≤ 3) (hb : a = [] ∨ t = [] ∨ a.getD (a.length - 1) 0 ≠ t.getD 0 0) : nf (a ++ t) := by
  intro k hk he
  rw [List.length_append] at hk
  by_cases h1 : k + 3 < a.length
  · rw [getD_app_l (by omega), getD_app_l (by omega), getD_app_l (by omega), getD_app_l (by omega)] at he
    exact h k h1 he
  by_cases h2 : a.length ≤ k
  · omega
  have hl : (a ++ t).getD (a.length - 1) 0 = a.getD (a.length - 1) 0 := getD_app_l (by omega)
  have hr : (a ++ t).getD a.length 0 = t.getD 0 0 := by rw [getD_app_r (Nat.le_refl _), Nat.sub_self]
  have hne : (a ++ t).getD (a.length - 1) 0 ≠ (a ++ t).getD a.length 0 := by
    rw [hl, hr]
    rcases hb with hb | hb | hb
    · rw [hb] at h2; simp at h2
    · rw [hb] at hk; simp at hk; omega
    · exact hb
  obtain ⟨e1, e2, e3⟩ := he
  have hc : a.length - 1 = k ∨ a.length - 1 = k + 1 ∨ a.length - 1 = k + 2 := by omega
  rcases hc with hc | hc | hc
  · rw [hc, show a.length = k + 1 by omega] at hne
    exact hne e1
  · rw [hc, show a.length = k + 2 by omega] at hne
    exact hne (e1.symm.trans e2)
  · rw [hc, show a.length = k + 3 by omega] at hne
    exact hne (e2.symm.trans e3)
/-- What the law asks of a row's pieces. -/
def PSeq : List Nat → Bool → List (List Nat) → Prop
  | _, _, [] => True
  | pre, was, p :: ps => (4 ≤ st p → (pre = [] ∨ pre.getD (pre.length - 1) 0 ≠ p.getD 0 0) ∧ (ps.flatten = [] ∨ ps.flatten.getD 0 0 ≠ p.getD 0 0)) ∧ (¬ 4 ≤ st p → was = true ∧ nf p) ∧ PSeq (pre ++ p) (decide (4 ≤ st p)) ps
theorem last_app {a b : List Nat} (h : 0 < b.length) : (a ++ b).getD ((a ++ b).length - 1) 0 = b.getD (b.length - 1) 0 := by
  rw [getD_app_r (by rw [List.length_append]; omega), List.length_append, show a.length + b.length - 1 - a.length = b.length - 1 by omega]
theorem take_last {l : List Nat} (h : 0 < l.length) : (l.take (st l)).length = st l ∧ (l.take (st l)).getD (st l - 1) 0 = l.getD 0 0 ∧ (l.take (st l)).getD 0 0 = l.getD 0 0 := by
  obtain ⟨a, b, c⟩ := st_spec l
  have hp := st_pos h
  refine ⟨by rw [List.length_take]; omega, ?_, getD_take' (by omega)⟩
  rw [getD_take' (by omega)]
  exact b _ (by omega)
theorem drop_head {l : List Nat} : l.drop (st l) = [] ∨ (l.drop (st l)).getD 0 0 ≠ l.getD 0 0 := by
  obtain ⟨a, b, c⟩ := st_spec l
  rcases c with c | c
  · exact .inl (List.drop_eq_nil_of_le (by omega))
  · right
    rw [getD_drop', Nat.add_zero]
    exact c
theorem cutP_seq : ∀ rest l pre, (rest = [] ∨ st (rest ++ l) < 4) → nf rest → (rest = [] ∨ l = [] ∨ rest.getD (rest.length - 1) 0 ≠ l.getD 0 0) → (rest = [] → pre = [] ∨ l = [] ∨ pre.getD (pre.length - 1) 0 ≠ l.getD 0 0) → PSeq pre true (cutP rest l) := by
  refine cut_ind (C := fun rest l => ∀ pre, (rest = [] ∨ st (rest ++ l) < 4) → nf rest → (rest = [] ∨ l = [] ∨ rest.getD (rest.length - 1) 0 ≠ l.getD 0 0) → (rest = [] → pre = [] ∨ l = [] ∨ pre.getD (pre.length - 1) 0 ≠ l.getD 0 0) → PSeq pre true (cutP rest l)) ?_ ?_ ?_
  · intro rest pre hs hn _ _
    rw [cutP_nil]
    unfold restL
    split
    · trivial
    · rename_i hl
      refine ⟨fun h4 => ?_, fun _ => ⟨rfl, hn⟩, trivial⟩
      rcases hs with rfl | hs
      · simp at hl
      · rw [List.append_nil] at hs
        omega
  · intro rest l h0 h ih pre hs hn hb hp
    obtain ⟨t1, t2, t3⟩ := take_last h0
    have hl : l ≠ [] := fun e => by rw [e] at h0; simp at h0
    have hrun : ∀ pre', (pre' = [] ∨ pre'.getD (pre'.length - 1) 0 ≠ l.getD 0 0) → ∀ was, PSeq pre' was (l.take (st l) :: cutP [] (l.drop (st l))) := by
      intro pre' hp' was
      refine ⟨fun _ => ⟨by rw [t3]; exact hp', ?_⟩, fun h4 => absurd (by rw [st_take]; exact h) h4, ?_⟩
      · rw [cutP_flat, List.nil_append, t3]
        exact drop_head
      · rw [show decide (4 ≤ st (l.take (st l))) = true from decide_eq_true (by rw [st_take]; exact h)]
        refine ih (pre' ++ l.take (st l)) (.inl rfl) (fun k hk => by simp at hk) (.inl rfl) (fun _ => ?_)
        rw [last_app (by omega), t1, t2]
        rcases drop_head (l := l) with e | e
        · exact .inr (.inl e)
        · exact .inr (.inr (Ne.symm e))
    rw [cutP_run h0 h]
    unfold restL
    split
    · rename_i hr
      have hr := List.eq_nil_of_length_eq_zero hr
      rw [List.nil_append]
      refine hrun pre ?_ true
      rcases hp hr with e | e | e
      · exact .inl e
      · exact absurd e hl
      · exact .inr e
    · rename_i hr
      refine ⟨fun h4 => ?_, fun _ => ⟨rfl, hn⟩, ?_⟩
      · rcases hs with rfl | hs
        · simp at hr
        · have := st_le_app (l := rest) (m := l)
          omega
      · refine hrun (pre ++ rest) (.inr ?_) _
        rw [last_app (by omega)]
        rcases hb with e | e | e
        · rw [e] at hr; simp at hr
        · exact absurd e hl
        · exact e
  · intro rest l h0 h ih pre hs hn hb hp
    obtain ⟨t1, t2, t3⟩ := take_last h0
    have hl : l ≠ [] := fun e => by rw [e] at h0; simp at h0
    have hpos := st_pos h0
    rw [cutP_rest h0 h]
    refine ih pre (.inr ?_) (nf_app hn (by omega) ?_) ?_ (fun e => ?_)
    · rw [List.append_assoc, List.take_append_drop]
      rcases hs with rfl | hs
      · simpa using h
      · exact hs
    · rw [t3]
      rcases hb with e | e | e
      · exact .inl e
      · exact absurd e hl
      · exact .inr (.inr e)
    · right
      rw [last_app (by omega), t1, t2]
      rcases drop_head (l := l) with e | e
      · exact .inl e
      · exact .inr (Ne.symm e)
    · have := congrArg List.length e
      rw [List.length_append, t1, List.length_nil] at this
      omega
theorem pcs_seq (l : List Nat) : PSeq [] true (pcs l) := cutP_seq [] l [] (.inl rfl) (fun k hk => by simp at hk) (.inl rfl) (fun _ => .inl rfl)

end Go.Hm
