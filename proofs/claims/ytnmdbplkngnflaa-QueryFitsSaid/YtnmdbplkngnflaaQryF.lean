/- Queries that fit: package query and its answer. -/
import Derived.Test.YtnmdbplkngnflaaQryE
import Derived.Deep.QuietTactic
import Derived.BigQuiet

namespace Go.Hm
/-- Places below many, each once. -/
def okM (l : List Int) (many : Int) : Prop := (∀ c ∈ l, 0 ≤ c ∧ c < many) ∧ l.Nodup
instance (l : List Int) (m : Int) : Decidable (okM l m) := by unfold okM; exact inferInstance
def fitsB (l : List Int) (f t many rows : Int) : Bool := decide (okM l many ∧ 0 ≤ f ∧ f ≤ t ∧ t ≤ rows)
theorem okM_take {l : List Int} {m : Int} (h : okM l m) (k : Nat) : okM (l.take k) m := ⟨fun c hc => h.1 c (List.mem_of_mem_take hc), h.2.sublist (List.take_sublist _ _)⟩
theorem okM_snoc (l : List Int) (c m : Int) : okM (l ++ [c]) m ↔ okM l m ∧ (0 ≤ c ∧ c < m) ∧ c ∉ l := by
  unfold okM
  rw [List.nodup_append]
  constructor
  · rintro ⟨h1, h2, _, h3⟩
    exact ⟨⟨fun x hx => h1 x (by simp [hx]), h2⟩, h1 c (by simp), fun hm => h3 c hm c (by simp) rfl⟩
  · rintro ⟨⟨h1, h2⟩, h3, h4⟩
    refine ⟨fun x hx => ?_, h2, by simp, fun a ha b hb => ?_⟩
    · rcases List.mem_append.1 hx with hx | hx
      · exact h1 x hx
      · rw [List.mem_singleton] at hx; subst hx; exact h3
    · rw [List.mem_singleton] at hb; subst hb
      rintro rfl; exact h4 ha
theorem qmay_fits (l : List Int) (f t : Int) : qmay l f t = fitsB l f t 64 65536 := by
  rw [Bool.eq_iff_iff, qmay_iff]
  simp only [fitsB, decide_eq_true_eq]
  exact ⟨fun h => ⟨h.2, h.1⟩, fun h => ⟨h.2, h.1⟩⟩
theorem qmay_few (l : List Int) (f t : Int) (h : 64 < l.length) : qmay l f t = false := by
  rw [Bool.eq_false_iff, Ne, qmay_iff]
  intro hh
  have := okCols_len hh.2
  omega
/-- A query of the file of so many columns and rows. -/
def qfits (l : List Int) (f t many rows : Int) : Bool := qmay l f t && fitsB l f t many rows
theorem qfits_iff (l : List Int) (f t many rows : Int) : qfits l f t many rows = true ↔ qmay l f t = true ∧ t ≤ rows ∧ ∀ c ∈ l, c < many := by
  simp only [qfits, Bool.and_eq_true, fitsB, decide_eq_true_eq, qmay_iff]
  unfold okM okCols
  constructor
  · rintro ⟨h1, ⟨h2, _⟩, _, _, h3⟩
    exact ⟨h1, h3, fun c hc => (h2 c hc).2⟩
  · rintro ⟨⟨⟨h1, h2, h3⟩, h4, h5⟩, h6, h7⟩
    exact ⟨⟨⟨h1, h2, h3⟩, h4, h5⟩, ⟨fun c hc => ⟨(h4 c hc).1, h7 c hc⟩, h5⟩, h1, h2, h6⟩

end Go.Hm

namespace Go.Proofs.Ytnmdbplkngnflaa
open Go.RowKit Go.Hm



/-- A footer's head: so many columns and rows. -/
abbrev Fv (A : Option Addr) (n c : Nat) (rows : Int) (A2 : Option Addr) (n2 c2 : Nat) : Value := .agg #[.slice A n c, .int .i64 rows, .slice A2 n2 c2]


set_option maxHeartbeats 2000000 in
set_option maxRecDepth 100000 in
theorem qfits_any {w : World} {A A1 A2 : Option Addr} {n c n1 c1 n2 c2 : Nat} {L : List Int} {f t rows : Int} (h : Reads w w.heap.size 1 A n (ints .i64 L)) (hn : n ≤ 9223372036854775806) (hL : ∀ x ∈ L, -9223372036854775808 ≤ x ∧ x ≤ 9223372036854775807) :
    Calls Try.prog 8 #[Qv A n c f t, Fv A1 n1 c1 rows A2 n2 c2] w (NewPost (.bool (qfits L f t n1 rows)) w) := by
  obtain rfl := h.lenI
  have b1 : New w ((w.alloc (.cells #[.slice A L.length c, .int .i64 f, .int .i64 t] 24)).alloc (.cells #[.slice A1 n1 c1, .int .i64 rows, .slice A2 n2 c2] 38)) := ((Below.refl _ _).alloc (Nat.le_refl _) _).alloc (by simp) _
  have M1 := Lib.hid (may_any (c := c) (f := f) (t := t) (Reads.later h b1) hn hL)
  have Bq := Blk.alloc (Blk.new w 24 #[.slice A L.length c, .int .i64 f, .int .i64 t]) (.cells #[.slice A1 n1 c1, .int .i64 rows, .slice A2 n2 c2] 38)
  have Bf := Blk.new1 w (.cells #[.slice A L.length c, .int .i64 f, .int .i64 t] 24) 38 #[.slice A1 n1 c1, .int .i64 rows, .slice A2 n2 c2]
  have HQ := Lib.hid Bq
  have HF := Lib.hid Bf
  clear Bq Bf
  have hcase : (qmay L f t = false ∧ qfits L f t n1 rows = false) ∨ (qmay L f t = true ∧ rows < t ∧ qfits L f t n1 rows = false) ∨ (qmay L f t = true ∧ t ≤ rows) := by
    cases hm : qmay L f t
    · exact .inl ⟨rfl, by unfold qfits; rw [hm]; rfl⟩
    · by_cases hr : t ≤ rows
      · exact .inr (.inr ⟨rfl, hr⟩)
      · refine .inr (.inl ⟨rfl, by omega, ?_⟩)
        rw [Bool.eq_false_iff, Ne, qfits_iff]
        intro hh; exact hr hh.2.1
  generalize hO : qfits L f t n1 rows = O at *
  have HO := Lib.hid hO
  clear hO
  rcases hcase with ⟨e1, rfl⟩ | ⟨e1, e2, rfl⟩ | ⟨e1, e2⟩
  all_goals
    rw [e1] at M1
    have HM := Lib.hid e1
    clear e1
    try (have d2 : decide (rows < t) = true := by simpa using e2)
    try (have d2 : decide (rows < t) = false := by simpa using e2)
    go_enter Try.func8, Try.ntmps8
    go_wp2_with (first
      | (go_at_call 17; refine M1.out.mono ?_; rintro e w2 ⟨rfl, b2⟩
         have b02 := New.trans b1 b2
         have Q2 := HQ.out.below b2 HQ.out.lt
         have F2 := HF.out.below b2 HF.out.lt
         have x0 : w2.cell? ⟨w.heap.size, 0, none⟩ = some (.slice A L.length c) := by rw [Q2.cell 0]; rfl
         have x2 : w2.cell? ⟨w.heap.size, 2, none⟩ = some (.int .i64 t) := by rw [Q2.cell 2]; rfl
         have y0 : w2.cell? ⟨w.heap.size + 1, 0, none⟩ = some (.slice A1 n1 c1) := by rw [F2.cell 0]; rfl
         have y1 : w2.cell? ⟨w.heap.size + 1, 1, none⟩ = some (.int .i64 rows) := by rw [F2.cell 1]; rfl
         clear Q2 F2))
    try (go_ret; exact ⟨rfl, b02⟩)
  go_loop [20] (fun i => ∃ k : Nat, k ≤ L.length ∧ i = .int .i64 (k : Int) ∧ Hid (∀ x ∈ L.take k, x < (n1 : Int))) (fun i => L.length - (intOf i).toNat)
  case atStart => exact ⟨0, by omega, rfl, Lib.hid (by simp)⟩
  case round =>
    obtain ⟨k, hk, rfl, HK⟩ := hrel
    by_cases hlt : k < L.length
    · obtain ⟨ad, rfl, hbk, hcell⟩ := (h.below b02).int hlt
      have T := take_snoc L k 0 hlt
      have no : ¬ L.getD k 0 < (n1 : Int) → O = false := fun hno => by
        rw [← HO.out, Bool.eq_false_iff, Ne, qfits_iff]
        intro hh
        refine hno (hh.2.2 _ ?_)
        rw [List.getD_eq_getElem?_getD, List.getElem?_eq_getElem hlt]
        exact List.getElem_mem hlt
      have HT := Lib.hid (show L.getD k 0 < (n1 : Int) → ∀ x ∈ L.take (k + 1), x < (n1 : Int) by
        intro hh x hx
        rw [T, List.mem_append, List.mem_singleton] at hx
        rcases hx with hx | rfl
        · exact HK.out x hx
        · exact hh)
      have HN := Lib.hid no
      clear T no
      generalize L.getD k 0 = y at *
      by_cases h1 : y < (n1 : Int)
      · have e3 : decide ((n1 : Int) ≤ y) = false := by simp; omega
        have HT2 := Lib.hid (HT.out h1)
        clear HT HN
        go_wp2
        go_round
        case rel => exact ⟨k + 1, by omega, by go_num, HT2⟩
        case measure => simp [intOf]; omega
      · have F := HN.out h1
        subst F
        have e3 : decide ((n1 : Int) ≤ y) = true := by simp; omega
        clear HN HT HO
        go_wp2
        go_ret
        exact ⟨rfl, b02⟩
    · obtain rfl : k = L.length := by omega
      have F : O = true := by
        rw [← HO.out, qfits_iff]
        have := HK.out
        rw [List.take_length] at this
        exact ⟨HM.out, e2, this⟩
      subst F
      clear HO HK
      go_wp2
      go_ret
      exact ⟨rfl, b02⟩

end Go.Proofs.Ytnmdbplkngnflaa
