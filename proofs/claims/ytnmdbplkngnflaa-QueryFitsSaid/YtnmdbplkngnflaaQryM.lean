/- Queries as plain data. No program is named here. -/
import Derived.Test.YtnmdbplkngnflaaCurM
import Derived.Test.YtnmdbplkngnflaaMem
open Go

namespace Go.Hm
/-- Columns that may be asked for: there, and once. -/
def okCols (l : List Int) : Prop := (∀ c ∈ l, 0 ≤ c ∧ c < 64) ∧ l.Nodup
instance (l : List Int) : Decidable (okCols l) := by unfold okCols; exact inferInstance
def qmay (l : List Int) (f t : Int) : Bool := decide ((0 ≤ f ∧ f ≤ t ∧ t ≤ 65536) ∧ okCols l)
/-- Which of 64 columns are among these. -/
def seenB (l : List Int) : List Value := (List.range 64).map fun i : Nat => Value.bool (decide ((i : Int) ∈ l))
theorem seenB_length (l : List Int) : (seenB l).length = 64 := by simp [seenB]
theorem seenB_nil : seenB [] = List.replicate 64 (.bool false) := by simp [seenB, List.map_const']
theorem seenB_at (l : List Int) (i : Nat) (h : i < 64) : (seenB l)[i]? = some (.bool (decide ((i : Int) ∈ l))) := by simp [seenB, h]
theorem seenB_set (l : List Int) (i : Nat) (h : i < 64) : (seenB l).set i (.bool true) = seenB (l ++ [(i : Int)]) := by
  refine List.ext_getElem? fun j => ?_
  rw [List.getElem?_set]
  by_cases hj : j < 64
  · rw [seenB_at _ j hj, seenB_at _ j hj, seenB_length]
    by_cases e : i = j
    · subst e; simp [h]
    · rw [if_neg e]
      congr 3
      simp only [List.mem_append, List.mem_singleton, eq_iff_iff]
      constructor
      · exact .inl
      · rintro (h1 | h1)
        · exact h1
        · omega
  · have h1 : (seenB l)[j]? = none := List.getElem?_eq_none (by rw [seenB_length]; omega)
    have h2 : (seenB (l ++ [(i : Int)]))[j]? = none := List.getElem?_eq_none (by rw [seenB_length]; omega)
    rw [h1, h2, seenB_length]
    split
    · omega
    · rfl
theorem okCols_take {l : List Int} (h : okCols l) (k : Nat) : okCols (l.take k) := ⟨fun c hc => h.1 c (List.mem_of_mem_take hc), h.2.sublist (List.take_sublist _ _)⟩
theorem okCols_snoc (l : List Int) (c : Int) : okCols (l ++ [c]) ↔ okCols l ∧ (0 ≤ c ∧ c < 64) ∧ c ∉ l := by
  unfold okCols
  rw [List.nodup_append]
  constructor
  · rintro ⟨h1, h2, _, h3⟩
    exact ⟨⟨fun x hx => h1 x (by simp [hx]), h2⟩, h1 c (by simp), fun hm => h3 c hm c (by simp) rfl⟩
  · rintro ⟨⟨h1, h2⟩, h3, h4⟩
    refine ⟨fun x hx => ?_, h2, by simp, fun a ha b hb => ?_⟩
    · rcases List.mem_append.1 hx with hx | hx
      · exact h1 x hx
      · rw [List.mem_singleton] at hx; subst hx; exact h3
    · rw [List.mem_singleton] at hb; subst hb
      rintro rfl; exact h4 ha
theorem filter_both {α : Type} (p : α → Bool) (l : List α) : l.length = (l.filter p).length + (l.filter fun c => !p c).length := by
  induction l with
  | nil => rfl
  | cons x l ih =>
    rw [List.filter_cons, List.filter_cons, List.length_cons, ih]
    cases p x <;> simp <;> omega
theorem okCols_len {l : List Int} (h : okCols l) : l.length ≤ 64 := by
  have key : ∀ (m : Nat) (l : List Int), (∀ c ∈ l, 0 ≤ c ∧ c < (m : Int)) → l.Nodup → l.length ≤ m := by
    intro m
    induction m with
    | zero =>
      intro l h1 _
      cases l with
      | nil => simp
      | cons c l => have := h1 c (by simp); omega
    | succ m ih =>
      intro l h1 h2
      have h3 := ih (l.filter fun c => decide (c ≠ (m : Int))) (fun c hc => by
        simp only [List.mem_filter, decide_eq_true_eq] at hc
        have := h1 c hc.1
        omega) (h2.sublist List.filter_sublist)
      have h4 : l.length ≤ (l.filter fun c => decide (c ≠ (m : Int))).length + 1 := by
        have h5 := filter_both (fun c => decide (c ≠ (m : Int))) l
        have h6 : (l.filter fun c => !decide (c ≠ (m : Int))).length ≤ 1 := by
          have e : (l.filter fun c => !decide (c ≠ (m : Int))) = l.filter (· == (m : Int)) := by
            refine List.filter_congr fun c _ => ?_
            rw [Bool.eq_iff_iff]; simp
          rw [e, ← List.count_eq_length_filter]
          exact List.nodup_iff_count.1 h2 _
        omega
      omega
  exact key 64 l h.1 h.2
theorem Blk.new1 (w : World) (o : Obj) (t : TypeId) (cs : Array Value) : Blk ((w.alloc o).alloc (.cells cs t)) (w.heap.size + 1) t cs := by
  have := Blk.new (w.alloc o) t cs
  have e : (w.alloc o).heap.size = w.heap.size + 1 := by simp
  rwa [e] at this
/-- The bytes of columns. -/
def catI (l : List Int) : List Nat := l.flatMap fun c => vp c.toNat
theorem catI_nil : catI [] = [] := rfl
theorem catI_cons (c : Int) (l : List Int) : catI (c :: l) = vp c.toNat ++ catI l := rfl
theorem catI_snoc (l : List Int) (c : Int) : catI (l ++ [c]) = catI l ++ vp c.toNat := by simp [catI]
theorem catI_len (l : List Int) (h : ∀ c ∈ l, 0 ≤ c ∧ c < 64) : (catI l).length = l.length := by
  induction l with
  | nil => rfl
  | cons c l ih =>
    have h1 := h c (by simp)
    rw [catI_cons, List.length_append, ih (fun x hx => h x (by simp [hx])), vp_lt (by omega)]; simp; omega
def qenc (l : List Int) (f t : Int) : List Nat := vp l.length ++ catI l ++ vp f.toNat ++ vp t.toNat
def encQ (l : List Int) (f t : Int) : Option (List Nat) := if qmay l f t then some (qenc l f t) else none
/-- Columns read. -/
def qcols : Nat → St → List Int × St
  | 0, S => ([], S)
  | n + 1, S => (((lenS 63 S).1 : Int) :: (qcols n (lenS 63 S).2).1, (qcols n (lenS 63 S).2).2)
theorem qcols_none (n : Nat) : (qcols n none).2 = none := by
  induction n with
  | zero => rfl
  | succ n ih => simp only [qcols, lenS_none, ih]
theorem qcols_ok {n : Nat} {S : St} (hS : S.ok) : (qcols n S).2.ok := by
  induction n generalizing S with
  | zero => exact hS
  | succ n ih => exact ih (lenS_ok hS)
theorem qcols_len (n : Nat) (S : St) : (qcols n S).1.length = n := by
  induction n generalizing S with
  | zero => rfl
  | succ n ih => simp only [qcols, List.length_cons, ih]
theorem qcols_bd {n : Nat} {S : St} (hS : S.ok) : ∀ c ∈ (qcols n S).1, 0 ≤ c ∧ c < 64 := by
  induction n generalizing S with
  | zero => simp [qcols]
  | succ n ih =>
    intro c hc
    simp only [qcols, List.mem_cons] at hc
    rcases hc with rfl | hc
    · have := lenS_le (m := 63) S (by omega) hS; omega
    · exact ih (lenS_ok hS) c hc
theorem qcols_app : ∀ (l : List Int) (r : List Nat), (∀ c ∈ l, 0 ≤ c ∧ c < 64) → qcols l.length (some (catI l ++ r)) = (l, some r) := by
  intro l
  induction l with
  | nil => intro r _; rfl
  | cons c l ih =>
    intro r h
    have h1 := h c (by simp)
    have e : lenS 63 (some (catI (c :: l) ++ r)) = (c.toNat, some (catI l ++ r)) := by
      rw [catI_cons, List.append_assoc]
      exact lenS_app _ _ (by omega) (by omega)
    simp only [List.length_cons, qcols, e, ih r (fun x hx => h x (by simp [hx]))]
    rw [Int.toNat_of_nonneg h1.1]
theorem qcols_spec : ∀ (n : Nat) (S : St) (r : List Nat), S.ok → (qcols n S).2 = some r → S = some (catI (qcols n S).1 ++ r) := by
  intro n
  induction n with
  | zero => intro S r _ h; simpa [qcols, catI] using h
  | succ n ih =>
    intro S r hS h
    simp only [qcols] at h ⊢
    rcases lenS_cases 63 S hS with e | ⟨N, r1, rfl, _, _, e⟩
    · rw [e, qcols_none] at h; cases h
    · rw [e] at h ⊢
      simp only at h ⊢
      have hr1 : St.ok (some r1) := St.ok_some fun x hx => hS _ rfl x (by simp [hx])
      have := ih (some r1) r hr1 h
      injection this with this
      rw [catI_cons, Int.toNat_natCast, List.append_assoc, ← this]
def decQ (b : List Nat) : Option (List Int × Int × Int) :=
  let x := lenS 64 (some b)
  let y := qcols x.1 x.2
  let f := lenS 65536 y.2
  let t := lenS 65536 f.2
  if endS t.2 = true ∧ qmay y.1 (f.1 : Int) (t.1 : Int) = true then some (y.1, (f.1 : Int), (t.1 : Int)) else none
theorem qmay_iff (l : List Int) (f t : Int) : qmay l f t = true ↔ (0 ≤ f ∧ f ≤ t ∧ t ≤ 65536) ∧ okCols l := by simp [qmay]
theorem decQ_iff {b : List Nat} {l : List Int} {f t : Int} (h8 : ∀ x ∈ b, x < 256) : decQ b = some (l, f, t) ↔ encQ l f t = some b := by
  constructor
  · intro h
    unfold decQ at h
    simp only at h
    split at h
    · rename_i hc
      simp only [Option.some.injEq, Prod.mk.injEq] at h
      obtain ⟨h1, h2, h3⟩ := h
      obtain ⟨c1, c2⟩ := hc
      rw [h1, h2, h3] at c2
      unfold encQ
      rw [if_pos c2]
      simp only [endS, decide_eq_true_eq] at c1
      have hS0 := St.ok_some h8
      rcases lenS_cases 64 (some b) hS0 with e | ⟨N, r1, e0, _, _, e⟩
      · rw [e] at c1; simp only [qcols_none, lenS_none] at c1; cases c1
      · rw [e] at c1 h1 h2 h3
        simp only at c1 h1 h2 h3
        have hr1 : St.ok (some r1) := by have := lenS_ok (m := 64) hS0; rwa [e] at this
        have hS1 := qcols_ok (n := N) hr1
        rcases lenS_cases 65536 (qcols N (some r1)).2 hS1 with e2 | ⟨F, r2, e20, _, _, e2⟩
        · rw [e2] at c1; simp only [lenS_none] at c1; cases c1
        · rw [e2] at c1 h2 h3
          simp only at c1 h2 h3
          have hr2 : St.ok (some r2) := by have := lenS_ok (m := 65536) hS1; rwa [e2] at this
          rcases lenS_cases 65536 (some r2) hr2 with e3 | ⟨T, r3, e30, _, _, e3⟩
          · rw [e3] at c1; cases c1
          · rw [e3] at c1 h3
            simp only at c1 h3
            injection c1 with c1
            subst c1
            have q := qcols_spec N (some r1) _ hr1 e20
            have ql := qcols_len N (some r1)
            rw [h1] at q ql
            injection q with q
            injection e30 with e30
            injection e0 with e0
            subst h2 h3
            unfold qenc
            rw [e0, q, e30, ql]
            simp [List.append_assoc]
    · cases h
  · intro h
    unfold encQ at h
    split at h
    · rename_i hm
      injection h with h
      obtain ⟨⟨h1, h2, h3⟩, h4⟩ := (qmay_iff l f t).1 hm
      have hl := okCols_len h4
      have e1 : lenS 64 (some b) = (l.length, some (catI l ++ (vp f.toNat ++ vp t.toNat))) := by
        rw [← h, qenc, List.append_assoc, List.append_assoc]
        exact lenS_app _ _ (by omega) (by omega)
      have e2 := qcols_app l (vp f.toNat ++ vp t.toNat) h4.1
      have e3 : lenS 65536 (some (vp f.toNat ++ vp t.toNat)) = (f.toNat, some (vp t.toNat)) := lenS_app _ _ (by omega) (by omega)
      have e4 : lenS 65536 (some (vp t.toNat)) = (t.toNat, some []) := by
        have := lenS_app (m := 65536) t.toNat [] (by omega) (by omega)
        rwa [List.append_nil] at this
      unfold decQ
      simp only [e1, e2, e3, e4, Int.toNat_of_nonneg h1, Int.toNat_of_nonneg (show 0 ≤ t by omega)]
      rw [if_pos ⟨by simp [endS], hm⟩]
    · cases h
theorem ints_snoc (k : IntKind) (l : List Int) (x : Int) : ints k (l ++ [x]) = ints k l ++ [.int k x] := by simp [ints]
theorem ints_take (k : IntKind) (l : List Int) (i : Nat) : (ints k l).take i = ints k (l.take i) := by simp [ints]
theorem getD_memI {L : List Int} {k : Nat} {Q : Int → Prop} (h : ∀ x ∈ L, Q x) (hk : k < L.length) : Q (L.getD k 0) := by
  rw [List.getD_eq_getElem?_getD, List.getElem?_eq_getElem hk]
  exact h _ (List.getElem_mem hk)

end Go.Hm
