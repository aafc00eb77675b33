/- Texts by what they share, as plain lists. No program is named here. -/
import Derived.Test.YtehickkodcfmfaaCurM

namespace Go.Hm
/-- How long both begin alike. -/
def shr : List Nat → List Nat → Nat
  | a :: l, b :: m => if a = b then shr l m + 1 else 0
  | _, _ => 0
theorem shr_le_left : ∀ a b : List Nat, shr a b ≤ a.length
  | [], _ => by simp [shr]
  | _ :: _, [] => by simp [shr]
  | a :: l, b :: m => by
    simp only [shr]
    split
    · have := shr_le_left l m; simp; exact this
    · simp
theorem shr_le_right : ∀ a b : List Nat, shr a b ≤ b.length
  | [], _ => by simp [shr]
  | _ :: _, [] => by simp [shr]
  | a :: l, b :: m => by
    simp only [shr]
    split
    · have := shr_le_right l m; simp; exact this
    · simp
theorem shr_take : ∀ a b : List Nat, a.take (shr a b) = b.take (shr a b)
  | [], _ => by simp [shr]
  | _ :: _, [] => by simp [shr]
  | a :: l, b :: m => by
    simp only [shr]
    split
    · rename_i e; subst e; simp [shr_take l m]
    · simp
theorem shr_comm : ∀ a b : List Nat, shr a b = shr b a
  | [], [] => rfl
  | [], _ :: _ => rfl
  | _ :: _, [] => rfl
  | a :: l, b :: m => by
    simp only [shr]
    by_cases e : a = b
    · subst e; simp [shr_comm l m]
    · rw [if_neg e, if_neg (fun h => e h.symm)]
theorem shr_is : ∀ (a b : List Nat) (n : Nat), n ≤ a.length → n ≤ b.length → a.take n = b.take n → (n = a.length ∨ n = b.length ∨ ¬ a.getD n 0 = b.getD n 0) → shr a b = n
  | [], _, n, h1, _, _, _ => by simp at h1; simp [shr, h1]
  | _ :: _, [], n, _, h2, _, _ => by simp at h2; simp [shr, h2]
  | a :: l, b :: m, 0, _, _, _, h => by
    simp only [shr]
    rcases h with h | h | h
    · simp at h
    · simp at h
    · simp at h; rw [if_neg h]
  | a :: l, b :: m, n + 1, h1, h2, h3, h => by
    simp only [List.take_succ_cons, List.cons.injEq] at h3
    simp only [shr]
    rw [if_pos h3.1, shr_is l m n (by simpa using h1) (by simpa using h2) h3.2 (by simpa using h)]
theorem shr_max : ∀ (a b : List Nat) (n : Nat), n ≤ a.length → a.take n = b.take n → n ≤ b.length → n ≤ shr a b
  | [], _, n, h1, _, _ => by simp at h1; omega
  | _ :: _, [], n, _, _, h2 => by simp at h2; omega
  | a :: l, b :: m, 0, _, _, _ => by omega
  | a :: l, b :: m, n + 1, h1, h3, h2 => by
    simp only [List.take_succ_cons, List.cons.injEq] at h3
    simp only [shr]
    rw [if_pos h3.1]
    have := shr_max l m n (by simpa using h1) h3.2 (by simpa using h2)
    omega
theorem shr_ne : ∀ (a b : List Nat), shr a b < a.length → shr a b < b.length → ¬ a.getD (shr a b) 0 = b.getD (shr a b) 0
  | [], _, h, _ => by simp [shr] at h
  | _ :: _, [], _, h => by simp [shr] at h
  | a :: l, b :: m, h1, h2 => by
    simp only [shr] at *
    split
    · rename_i e
      rw [if_pos e] at h1 h2
      have := shr_ne l m (by simpa using h1) (by simpa using h2)
      simpa using this
    · rename_i e; simpa using e

def fsum (l : List (List Nat)) : Nat := (l.map List.length).sum
theorem fsum_nil : fsum [] = 0 := rfl
theorem fsum_cons (s : List Nat) (l : List (List Nat)) : fsum (s :: l) = s.length + fsum l := by simp [fsum]
theorem fsum_append (l m : List (List Nat)) : fsum (l ++ m) = fsum l + fsum m := by simp [fsum]
theorem fsum_take (l : List (List Nat)) (k : Nat) : fsum (l.take k) ≤ fsum l := by
  conv => rhs; rw [← List.take_append_drop k l, fsum_append]
  omega
def fewB (l : List (List Nat)) : Bool := decide (l.length ≤ 65536 ∧ (∀ s ∈ l, s.length ≤ 65536) ∧ fsum l ≤ 16777216)
theorem fewB_iff (l : List (List Nat)) : fewB l = true ↔ l.length ≤ 65536 ∧ (∀ s ∈ l, s.length ≤ 65536) ∧ fsum l ≤ 16777216 := by simp [fewB]

theorem fewB_no0 {l : List (List Nat)} (h : 65536 < l.length) : fewB l = false := by
  rw [Bool.eq_false_iff, Ne, fewB_iff]; omega
theorem fewB_no1 {l : List (List Nat)} {k : Nat} (hk : k < l.length) (h : 65536 < (l.getD k []).length) : fewB l = false := by
  rw [Bool.eq_false_iff, Ne, fewB_iff]
  rintro ⟨_, h2, _⟩
  have := h2 (l.getD k []) (by rw [List.getD_eq_getElem?_getD, List.getElem?_eq_getElem hk]; exact List.getElem_mem hk)
  omega
theorem fewB_no2 {l : List (List Nat)} {k : Nat} (h : 16777216 < fsum (l.take k)) : fewB l = false := by
  rw [Bool.eq_false_iff, Ne, fewB_iff]
  rintro ⟨_, _, h3⟩
  have := fsum_take l k
  omega
theorem fewB_yes {l : List (List Nat)} (h1 : l.length ≤ 65536) (h2 : ∀ s ∈ l, s.length ≤ 65536) (h3 : fsum l ≤ 16777216) : fewB l = true := (fewB_iff l).2 ⟨h1, h2, h3⟩
theorem fsum_snoc (l : List (List Nat)) (s : List Nat) : fsum (l ++ [s]) = fsum l + s.length := by simp [fsum]
/-- One text behind another one. -/
def fpiece (a s : List Nat) : List Nat := vp (shr a s) ++ vp (s.length - shr a s) ++ s.drop (shr a s)
def fenc : List Nat → List (List Nat) → List Nat
  | _, [] => []
  | a, s :: l => fpiece a s ++ fenc s l
def lastD (a : List Nat) (l : List (List Nat)) : List Nat := l.getLast?.getD a
theorem lastD_snoc (a s : List Nat) (l : List (List Nat)) : lastD a (l ++ [s]) = s := by simp [lastD]
theorem lastD_nil (a : List Nat) : lastD a [] = a := rfl
theorem fenc_snoc (a s : List Nat) (l : List (List Nat)) : fenc a (l ++ [s]) = fenc a l ++ fpiece (lastD a l) s := by
  induction l generalizing a with
  | nil => simp [fenc, lastD]
  | cons x l ih =>
    rw [List.cons_append, fenc, ih x, fenc, List.append_assoc]
    congr 3
    cases l with
    | nil => simp [lastD]
    | cons y l => simp [lastD, List.getLast?_eq_some_getLast]
theorem fenc_len (a : List Nat) (l : List (List Nat)) (h : ∀ s ∈ l, s.length ≤ 65536) : (fenc a l).length ≤ 20 * l.length + fsum l := by
  induction l generalizing a with
  | nil => simp [fenc]
  | cons s l ih =>
    have h1 := ih s (fun x hx => h x (by simp [hx]))
    have h2 := h s (by simp)
    have k2 := shr_le_right a s
    have v1 := vp_len10 (n := shr a s) (by omega)
    have v2 := vp_len10 (n := s.length - shr a s) (by omega)
    rw [fenc, fpiece, fsum_cons, List.length_cons]
    simp only [List.length_append, List.length_drop]
    omega
theorem lastD_mem {Q : List Nat → Prop} {a : List Nat} (l : List (List Nat)) (ha : Q a) (h : ∀ s ∈ l, Q s) : Q (lastD a l) := by
  unfold lastD
  cases hl : l.getLast? with
  | none => exact ha
  | some x => exact h x (List.mem_of_getLast? hl)
def encF (l : List (List Nat)) : Option (List Nat) := if fewB l then some (fenc [] l) else none

/-- The next text: what it is, what stands ahead of the next one, how much room there is, and what is left. -/
def ftext (a : List Nat) (room : Int) (S : St) : List Nat × List Nat × Int × St :=
  if shr a (a.take (lenS a.length S).1 ++ (takeS (lenS (65536 - ((lenS a.length S).1 : Int)) (lenS a.length S).2).1 (lenS (65536 - ((lenS a.length S).1 : Int)) (lenS a.length S).2).2).1) = (lenS a.length S).1 ∧
      ((a.take (lenS a.length S).1 ++ (takeS (lenS (65536 - ((lenS a.length S).1 : Int)) (lenS a.length S).2).1 (lenS (65536 - ((lenS a.length S).1 : Int)) (lenS a.length S).2).2).1).length : Int) ≤ room then
    (a.take (lenS a.length S).1 ++ (takeS (lenS (65536 - ((lenS a.length S).1 : Int)) (lenS a.length S).2).1 (lenS (65536 - ((lenS a.length S).1 : Int)) (lenS a.length S).2).2).1,
     a.take (lenS a.length S).1 ++ (takeS (lenS (65536 - ((lenS a.length S).1 : Int)) (lenS a.length S).2).1 (lenS (65536 - ((lenS a.length S).1 : Int)) (lenS a.length S).2).2).1,
     room - ((a.take (lenS a.length S).1 ++ (takeS (lenS (65536 - ((lenS a.length S).1 : Int)) (lenS a.length S).2).1 (lenS (65536 - ((lenS a.length S).1 : Int)) (lenS a.length S).2).2).1).length : Int),
     (takeS (lenS (65536 - ((lenS a.length S).1 : Int)) (lenS a.length S).2).1 (lenS (65536 - ((lenS a.length S).1 : Int)) (lenS a.length S).2).2).2)
  else ([], a, room, none)
/-- A text is read off a state that is not bad just if it is laid there. -/
theorem ftext_spec (a : List Nat) (room : Int) (S : St) (hS : S.ok) :
    (ftext a room S).2.2.2 = none ∨ ∃ s r, S = some (fpiece a s ++ r) ∧ s.length ≤ 65536 ∧ (s.length : Int) ≤ room ∧ ftext a room S = (s, s, room - s.length, some r) := by
  unfold ftext
  split
  · rename_i hc
    obtain ⟨h1, h2⟩ := hc
    rcases lenS_cases (a.length : Int) S hS with e1 | ⟨k, r1, rfl, hk, _, e1⟩
    · left; simp only [e1, lenS_none, takeS_none]
    · rw [e1] at h1 h2 ⊢
      simp only at h1 h2 ⊢
      have hr1 : St.ok (some r1) := St.ok_some fun x hx => hS _ rfl x (by simp [hx])
      rcases lenS_cases (65536 - (k : Int)) (some r1) hr1 with e2 | ⟨m, r2, hr, hm, _, e2⟩
      · left; simp only [e2, takeS_none]
      · rw [e2] at h1 h2 ⊢
        simp only at h1 h2 ⊢
        injection hr with hr
        subst hr
        rcases takeS_cases (m : Int) (some r2) with e3 | ⟨l, hl, hm1, hm2, e3⟩
        · left; simp only [e3]
        · rw [e3] at h1 h2 ⊢
          simp only [Int.toNat_natCast] at h1 h2 ⊢
          injection hl with hl
          subst hl
          have hka : k ≤ a.length := by omega
          have hlen : (a.take k ++ r2.take m).length = k + m := by
            rw [List.length_append, List.length_take, List.length_take]; omega
          refine .inr ⟨a.take k ++ r2.take m, r2.drop m, ?_, by omega, h2, rfl⟩
          rw [fpiece, h1, hlen, show k + m - k = m by omega, List.drop_left' (by rw [List.length_take]; omega)]
          simp
  · exact .inl rfl
theorem ftext_app (a s r : List Nat) (room : Int) (hs : s.length ≤ 65536) (hr : (s.length : Int) ≤ room) (ha : a.length ≤ 65536) : ftext a room (some (fpiece a s ++ r)) = (s, s, room - s.length, some r) := by
  have k1 := shr_le_left a s
  have k2 := shr_le_right a s
  have e1 : lenS (a.length : Int) (some (fpiece a s ++ r)) = (shr a s, some (vp (s.length - shr a s) ++ (s.drop (shr a s) ++ r))) := by
    rw [fpiece, List.append_assoc, List.append_assoc]
    exact lenS_app _ _ (by omega) (by omega)
  have e2 : lenS (65536 - (shr a s : Int)) (some (vp (s.length - shr a s) ++ (s.drop (shr a s) ++ r))) = (s.length - shr a s, some (s.drop (shr a s) ++ r)) := lenS_app _ _ (by omega) (by omega)
  have e3 : takeS ((s.length - shr a s : Nat) : Int) (some (s.drop (shr a s) ++ r)) = (s.drop (shr a s), some r) := by
    have := takeS_app (s.drop (shr a s)) r
    rwa [List.length_drop] at this
  have e4 : a.take (shr a s) ++ s.drop (shr a s) = s := by rw [shr_take, List.take_append_drop]
  unfold ftext
  simp only [e1, e2, e3, e4]
  rw [if_pos ⟨trivial, hr⟩]
theorem ftext_inv (a : List Nat) (room : Int) (S : St) (hS : S.ok) (ha : a.length ≤ 65536) (h8 : ∀ x ∈ a, x < 256) (h0 : 0 ≤ room) (h1 : room ≤ 16777216) :
    (ftext a room S).2.1.length ≤ 65536 ∧ (∀ x ∈ (ftext a room S).2.1, x < 256) ∧ 0 ≤ (ftext a room S).2.2.1 ∧ (ftext a room S).2.2.1 ≤ 16777216 ∧ (ftext a room S).1.length ≤ 65536 ∧ (∀ x ∈ (ftext a room S).1, x < 256) := by
  have hk0 := lenS_le (m := a.length) S (by omega) hS
  have hS1 := lenS_ok (m := a.length) hS
  have hm0 := lenS_le (m := 65536 - ((lenS a.length S).1 : Int)) (lenS a.length S).2 (by omega) hS1
  have hS2 := lenS_ok (m := 65536 - ((lenS a.length S).1 : Int)) hS1
  have hr8 := (takeS_ok (n := ((lenS (65536 - ((lenS a.length S).1 : Int)) (lenS a.length S).2).1 : Int)) hS2).2
  have hrl := takeS_len (n := ((lenS (65536 - ((lenS a.length S).1 : Int)) (lenS a.length S).2).1 : Int)) (S := (lenS (65536 - ((lenS a.length S).1 : Int)) (lenS a.length S).2).2) (by omega)
  unfold ftext
  generalize lenS a.length S = p1 at *
  generalize lenS (65536 - (p1.1 : Int)) p1.2 = p2 at *
  generalize takeS (p2.1 : Int) p2.2 = p3 at *
  have ht8 : ∀ x ∈ a.take p1.1 ++ p3.1, x < 256 := by
    intro x hx
    rcases List.mem_append.1 hx with hx | hx
    · exact h8 x (List.mem_of_mem_take hx)
    · exact hr8 x hx
  have htl : (a.take p1.1 ++ p3.1).length ≤ 65536 := by
    rw [List.length_append, List.length_take]; omega
  split
  · rename_i hc
    exact ⟨htl, ht8, by simp only; omega, by simp only; omega, htl, ht8⟩
  · exact ⟨ha, h8, h0, h1, by simp, by simp⟩
/-- n texts. -/
def fdec : Nat → List Nat → Int → St → List (List Nat) × St
  | 0, _, _, S => ([], S)
  | n + 1, a, room, S => if S = none then ([], none) else
      ((ftext a room S).1 :: (fdec n (ftext a room S).2.1 (ftext a room S).2.2.1 (ftext a room S).2.2.2).1, (fdec n (ftext a room S).2.1 (ftext a room S).2.2.1 (ftext a room S).2.2.2).2)
theorem fdec_none (n : Nat) (a : List Nat) (room : Int) : (fdec n a room none).2 = none := by cases n <;> simp [fdec]
theorem fdec_spec : ∀ (n : Nat) (a : List Nat) (room : Int) (S : St) (r : List Nat), S.ok → 0 ≤ room → a.length ≤ 65536 → (fdec n a room S).2 = some r →
    S = some (fenc a (fdec n a room S).1 ++ r) ∧ (fdec n a room S).1.length = n ∧ (∀ s ∈ (fdec n a room S).1, s.length ≤ 65536) ∧ (fsum (fdec n a room S).1 : Int) ≤ room := by
  intro n
  induction n with
  | zero =>
    intro a room S r _ h0 _ h
    simp only [fdec] at h ⊢
    subst h
    simp [fenc, fsum, h0]
  | succ n ih =>
    intro a room S r hS h0 ha h
    by_cases hn : S = none
    · simp [fdec, hn] at h
    · simp only [fdec, if_neg hn] at h ⊢
      rcases ftext_spec a room S hS with e | ⟨s, r1, rfl, h1, h2, e⟩
      · rw [e, fdec_none] at h; cases h
      · rw [e] at h ⊢
        simp only at h ⊢
        have hr1 : St.ok (some r1) := St.ok_some fun x hx => hS _ rfl x (by simp [hx])
        obtain ⟨g1, g2, g3, g4⟩ := ih s (room - s.length) (some r1) r hr1 (by omega) h1 h
        injection g1 with g1
        refine ⟨?_, by simp [g2], ?_, ?_⟩
        · rw [fenc, List.append_assoc, ← g1]
        · intro x hx
          rcases List.mem_cons.1 hx with rfl | hx
          · exact h1
          · exact g3 x hx
        · rw [fsum_cons]; omega
theorem fdec_app : ∀ (l : List (List Nat)) (a : List Nat) (room : Int) (r : List Nat), a.length ≤ 65536 → (∀ s ∈ l, s.length ≤ 65536) → (fsum l : Int) ≤ room → fdec l.length a room (some (fenc a l ++ r)) = (l, some r) := by
  intro l
  induction l with
  | nil => intro a room r _ _ _; simp [fdec, fenc]
  | cons s l ih =>
    intro a room r ha hl hs
    rw [fsum_cons] at hs
    have h1 := hl s (by simp)
    simp only [List.length_cons, fdec, fenc]
    rw [if_neg (by simp), List.append_assoc, ftext_app a s _ room h1 (by omega) ha]
    simp only
    rw [ih s (room - s.length) r h1 (fun x hx => hl x (by simp [hx])) (by omega)]
theorem fdec_stop (n : Nat) (a : List Nat) (room : Int) {S : St} (h : n = 0 ∨ S = none) : fdec n a room S = ([], S) := by
  rcases h with rfl | rfl
  · rfl
  · cases n <;> simp [fdec]
theorem fdec_step (n : Nat) (a : List Nat) (room : Int) (S : St) (h : S ≠ none) : fdec (n + 1) a room S = ((ftext a room S).1 :: (fdec n (ftext a room S).2.1 (ftext a room S).2.2.1 (ftext a room S).2.2.2).1, (fdec n (ftext a room S).2.1 (ftext a room S).2.2.1 (ftext a room S).2.2.2).2) := by
  simp only [fdec, if_neg h]
def decF (b : List Nat) (n : Int) : Option (List (List Nat)) :=
  if 0 ≤ n ∧ n ≤ 65536 then (if endS (fdec n.toNat [] 16777216 (some b)).2 then some (fdec n.toNat [] 16777216 (some b)).1 else none) else none
theorem decF_iff {b : List Nat} {n : Int} {l : List (List Nat)} (h8 : ∀ x ∈ b, x < 256) : decF b n = some l ↔ (l.length : Int) = n ∧ encF l = some b := by
  constructor
  · intro h
    unfold decF at h
    split at h
    · rename_i hn
      split at h
      · rename_i he
        injection h with h
        simp only [endS, decide_eq_true_eq] at he
        obtain ⟨g1, g2, g3, g4⟩ := fdec_spec n.toNat [] 16777216 (some b) [] (St.ok_some h8) (by omega) (by simp) he
        rw [h] at g1 g2 g3 g4
        injection g1 with g1
        rw [List.append_nil] at g1
        refine ⟨by omega, ?_⟩
        unfold encF
        rw [if_pos, ← g1]
        rw [fewB_iff]
        exact ⟨by omega, g3, by omega⟩
      · cases h
    · cases h
  · rintro ⟨rfl, h⟩
    unfold encF at h
    split at h
    · rename_i hf
      rw [fewB_iff] at hf
      injection h with h
      have := fdec_app l [] 16777216 [] (by simp) hf.2.1 (by have := hf.2.2; omega)
      rw [List.append_nil, h] at this
      unfold decF
      rw [if_pos ⟨by omega, by omega⟩, Int.toNat_natCast, this]
      simp [endS]
    · cases h
theorem lt_of_fenc {a : List Nat} {l : List (List Nat)} (ha : ∀ x ∈ a, x < 256) (h : ∀ x ∈ fenc a l, x < 256) : ∀ s ∈ l, ∀ x ∈ s, x < 256 := by
  induction l generalizing a with
  | nil => simp
  | cons s l ih =>
    rw [fenc, fpiece] at h
    have hs : ∀ x ∈ s, x < 256 := by
      intro x hx
      rw [← List.take_append_drop (shr a s) s, List.mem_append] at hx
      rcases hx with hx | hx
      · rw [← shr_take] at hx
        exact ha x (List.mem_of_mem_take hx)
      · exact h x (by simp [hx])
    intro t ht
    rcases List.mem_cons.1 ht with rfl | ht
    · exact hs
    · exact ih hs (fun x hx => h x (by simp [hx])) t ht
theorem decF_8 {b : List Nat} {n : Int} (h8 : ∀ x ∈ b, x < 256) : (∀ s ∈ (decF b n).getD [], ∀ x ∈ s, x < 256) ∧ ((decF b n).getD []).length ≤ 65536 ∧ ∀ s ∈ (decF b n).getD [], s.length ≤ 65536 := by
  cases h : decF b n with
  | none => simp
  | some l =>
    obtain ⟨_, h2⟩ := (decF_iff h8).1 h
    unfold encF at h2
    split at h2
    · rename_i hf
      injection h2 with h2
      obtain ⟨f1, f2, _⟩ := (fewB_iff l).1 hf
      exact ⟨lt_of_fenc (a := []) (by simp) (by show ∀ x ∈ fenc [] l, x < 256; rw [h2]; exact h8), f1, f2⟩
    · cases h2
/-- The answer's way: n texts, all of them few bytes. -/
def rdec : Nat → List Nat → Nat → St → Option (List (List Nat) × St)
  | 0, _, _, S => some ([], S)
  | n + 1, a, q, S =>
    let x := lenS (a.length : Int) S
    let y := lenS 65536 x.2
    let z := takeS (y.1 : Int) y.2
    if z.2 = none ∨ 16777216 < q + (a.take x.1 ++ z.1).length then none
    else (rdec n (a.take x.1 ++ z.1) (q + (a.take x.1 ++ z.1).length) z.2).map fun p => ((a.take x.1 ++ z.1) :: p.1, p.2)
theorem rdec_len : ∀ (n : Nat) (a : List Nat) (q : Nat) (S : St) (l : List (List Nat)) (T : St), rdec n a q S = some (l, T) → l.length = n := by
  intro n
  induction n with
  | zero => intro a q S l T h; simp [rdec] at h; rw [h.1]; rfl
  | succ n ih =>
    intro a q S l T h
    simp only [rdec] at h
    split at h
    · cases h
    · rw [Option.map_eq_some_iff] at h
      obtain ⟨⟨l', T'⟩, h1, h2⟩ := h
      simp only [Prod.mk.injEq] at h2
      obtain ⟨rfl, rfl⟩ := h2
      simp [ih _ _ _ _ _ h1]
theorem rdec_app : ∀ (l : List (List Nat)) (a : List Nat) (q : Nat) (r : List Nat), a.length ≤ 65536 → (∀ s ∈ l, s.length ≤ 65536) → q + fsum l ≤ 16777216 → rdec l.length a q (some (fenc a l ++ r)) = some (l, some r) := by
  intro l
  induction l with
  | nil => intro a q r _ _ _; simp [rdec, fenc]
  | cons s l ih =>
    intro a q r ha hl hs
    rw [fsum_cons] at hs
    have h1 := hl s (by simp)
    have k1 := shr_le_left a s
    have k2 := shr_le_right a s
    have e1 : lenS (a.length : Int) (some (fenc a (s :: l) ++ r)) = (shr a s, some (vp (s.length - shr a s) ++ (s.drop (shr a s) ++ (fenc s l ++ r)))) := by
      rw [fenc, fpiece]
      simp only [List.append_assoc]
      exact lenS_app _ _ (by omega) (by omega)
    have e2 : lenS 65536 (some (vp (s.length - shr a s) ++ (s.drop (shr a s) ++ (fenc s l ++ r)))) = (s.length - shr a s, some (s.drop (shr a s) ++ (fenc s l ++ r))) := lenS_app _ _ (by omega) (by omega)
    have e3 : takeS ((s.length - shr a s : Nat) : Int) (some (s.drop (shr a s) ++ (fenc s l ++ r))) = (s.drop (shr a s), some (fenc s l ++ r)) := by
      have := takeS_app (s.drop (shr a s)) (fenc s l ++ r)
      rwa [List.length_drop] at this
    have e4 : a.take (shr a s) ++ s.drop (shr a s) = s := by rw [shr_take, List.take_append_drop]
    simp only [List.length_cons, rdec, e1, e2, e3, e4]
    rw [if_neg (by simp; omega), ih s (q + s.length) r h1 (fun x hx => hl x (by simp [hx])) (by omega)]
    rfl
theorem decF_r {b : List Nat} {m : Nat} (h8 : ∀ x ∈ b, x < 256) : decF b (m : Int) = match rdec m [] 0 (some b) with
    | none => none
    | some (l, T) => if endS T = true ∧ encF l = some b then some l else none := by
  cases hD : decF b (m : Int) with
  | some l =>
    obtain ⟨h1, h2⟩ := (decF_iff h8).1 hD
    have h3 := h2
    unfold encF at h3
    split at h3
    · rename_i hf
      injection h3 with h3
      rw [fewB_iff] at hf
      have e : l.length = m := by omega
      have := rdec_app l [] 0 [] (by simp) hf.2.1 (by have := hf.2.2; omega)
      rw [List.append_nil, h3, e] at this
      rw [this]
      simp [endS, h2]
    · cases h3
  | none =>
    cases hR : rdec m [] 0 (some b) with
    | none => rfl
    | some p =>
      obtain ⟨l, T⟩ := p
      simp only
      split
      · rename_i hc
        have := (decF_iff (n := (m : Int)) h8).2 ⟨by rw [rdec_len _ _ _ _ _ _ hR], hc.2⟩
        rw [this] at hD
        cases hD
      · rfl
theorem vp_lt8 : ∀ (k n : Nat), n ≤ k → ∀ x ∈ vp n, x < 256 := by
  intro k
  induction k using Nat.strongRecOn with
  | ind k ih =>
    intro n hk x hx
    by_cases hn : n < 128
    · rw [vp_lt hn] at hx; simp at hx; omega
    · rw [vp_ge hn, List.mem_cons] at hx
      rcases hx with hx | hx
      · omega
      · exact ih (n / 128) (by omega) (n / 128) (Nat.le_refl _) x hx
theorem fenc_lt (a : List Nat) (l : List (List Nat)) (h : ∀ s ∈ l, ∀ x ∈ s, x < 256) : ∀ x ∈ fenc a l, x < 256 := by
  induction l generalizing a with
  | nil => simp [fenc]
  | cons s l ih =>
    intro x hx
    rw [fenc, fpiece] at hx
    simp only [List.mem_append] at hx
    rcases hx with ((hx | hx) | hx) | hx
    · exact vp_lt8 _ _ (Nat.le_refl _) x hx
    · exact vp_lt8 _ _ (Nat.le_refl _) x hx
    · exact h s (by simp) x (List.mem_of_mem_drop hx)
    · exact ih s (fun y hy => h y (by simp [hy])) x hx
theorem encF_lt {l : List (List Nat)} {b : List Nat} (h : ∀ s ∈ l, ∀ x ∈ s, x < 256) (hb : encF l = some b) : ∀ x ∈ b, x < 256 := by
  unfold encF at hb
  split at hb
  · injection hb with hb
    rw [← hb]
    exact fenc_lt [] l h
  · cases hb

end Go.Hm
