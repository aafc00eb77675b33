/- Queries that fit: package query and its answer. -/
import Derived.Test.YtpdjgmhhbdfdcaaQryE
import Derived.Deep.QuietTactic
import Derived.BigQuiet

namespace Go.Hm
/-- Places below many, each once. -/
def okM (l : List Int) (many : Int) : Prop := (∀ c ∈ l, 0 ≤ c ∧ c < many) ∧ l.Nodup
instance (l : List Int) (m : Int) : Decidable (okM l m) := by unfold okM; exact inferInstance
def fitsB (l : List Int) (f t many rows : Int) : Bool := decide (okM l many ∧ 0 ≤ f ∧ f ≤ t ∧ t ≤ rows)
theorem okM_take {l : List Int} {m : Int} (h : okM l m) (k : Nat) : okM (l.take k) m := ⟨fun c hc => h.1 c (List.mem_of_mem_take hc), h.2.sublist (List.take_sublist _ _)⟩
theorem okM_snoc (l : List Int) (c m : Int) : okM (l ++ [c]) m ↔ okM l m ∧ (0 ≤ c ∧ c < m) ∧ c ∉ l := by
  unfold okM
  rw [List.nodup_append]
  constructor
  · rintro ⟨h1, h2, _, h3⟩
    exact ⟨⟨fun x hx => h1 x (by simp [hx]), h2⟩, h1 c (by simp), fun hm => h3 c hm c (by simp) rfl⟩
  · rintro ⟨⟨h1, h2⟩, h3, h4⟩
    refine ⟨fun x hx => ?_, h2, by simp, fun a ha b hb => ?_⟩
    · rcases List.mem_append.1 hx with hx | hx
      · exact h1 x hx
      · rw [List.mem_singleton] at hx; subst hx; exact h3
    · rw [List.mem_singleton] at hb; subst hb
      rintro rfl; exact h4 ha
theorem qmay_fits (l : List Int) (f t : Int) : qmay l f t = fitsB l f t 64 65536 := by
  rw [Bool.eq_iff_iff, qmay_iff]
  simp only [fitsB, decide_eq_true_eq]
  exact ⟨fun h => ⟨h.2, h.1⟩, fun h => ⟨h.2, h.1⟩⟩
theorem qmay_few (l : List Int) (f t : Int) (h : 64 < l.length) : qmay l f t = false := by
  rw [Bool.eq_false_iff, Ne, qmay_iff]
  intro hh
  have := okCols_len hh.2
  omega
/-- A query of the file of so many columns and rows. -/
def qfits (l : List Int) (f t many rows : Int) : Bool := qmay l f t && fitsB l f t many rows
theorem qfits_iff (l : List Int) (f t many rows : Int) : qfits l f t many rows = true ↔ qmay l f t = true ∧ t ≤ rows ∧ ∀ c ∈ l, c < many := by
  simp only [qfits, Bool.and_eq_true, fitsB, decide_eq_true_eq, qmay_iff]
  unfold okM okCols
  constructor
  · rintro ⟨h1, ⟨h2, _⟩, _, _, h3⟩
    exact ⟨h1, h3, fun c hc => (h2 c hc).2⟩
  · rintro ⟨⟨⟨h1, h2, h3⟩, h4, h5⟩, h6, h7⟩
    exact ⟨⟨⟨h1, h2, h3⟩, h4, h5⟩, ⟨fun c hc => ⟨(h4 c hc).1, h7 c hc⟩, h5⟩, h1, h2, h6⟩

end Go.Hm

namespace Go.Proofs.Ytpdjgmhhbdfdcaa
open Go.RowKit Go.Hm

set_option maxHeartbeats 2000000 in
set_option maxRecDepth 100000 in
theorem fits7_any {w : World} {A : Option Addr} {n c : Nat} {L : List Int} {f t many rows : Int} (h : Reads w w.heap.size 1 A n (ints .i64 L)) (hn : n ≤ 9223372036854775806) :
    Calls Try.prog 24 #[.slice A n c, .int .i64 f, .int .i64 t, .int .i64 many, .int .i64 rows] w (NewPost (.bool (fitsB L f t many rows)) w) := by
  obtain rfl := h.lenI
  generalize hO : fitsB L f t many rows = O
  have HO := Lib.hid hO
  clear hO
  go_enter Try.func24, Try.ntmps24
  go_wp2
  go_loopw [11] (fun i wr => ∃ k : Nat, k ≤ L.length ∧ i = .int .i64 (k : Int) ∧ Hid (okM (L.take k) many) ∧ New w wr) (fun i _ => L.length - (intOf i).toNat)
  case atStart => exact ⟨0, by omega, rfl, Lib.hid ⟨by simp, by simp⟩, Below.refl _ _⟩
  case round =>
    obtain ⟨k, hk, rfl, HK, hb⟩ := hrel
    by_cases hlt : k < L.length
    · obtain ⟨ad, hA, hbk, hcell⟩ := (h.below hb).int hlt
      subst hA
      have T := take_snoc L k 0 hlt
      have ON := okM_snoc (L.take k) (L.getD k 0) many
      rw [← T] at ON
      have no : ¬ okM (L.take (k + 1)) many → O = false := fun hno => by rw [← HO.out]; exact decide_eq_false fun hh => hno (okM_take hh.1 _)
      have HY := Lib.hid (show L.getD k 0 = L.getD k 0 from rfl)
      clear T
      generalize hy : L.getD k 0 = y at *
      have HN := Lib.hid no
      have HON := Lib.hid ON
      have HYY := Lib.hid hy
      clear ON no hy HY
      by_cases h1 : 0 ≤ y ∧ y < many
      · have e1 : decide (y < 0) = false := by simp; omega
        have e2 : decide (many ≤ y) = false := by simp; omega
        have H1 := Lib.hid h1
        clear h1
        go_wp2
        obtain ⟨wo, rfl⟩ : ∃ wo : World, wo = wr := ⟨_, rfl⟩
        go_loopw [12] (fun i wr => ∃ j : Nat, j ≤ k ∧ i = .int .i64 (j : Int) ∧ Hid (y ∉ L.take j) ∧ New w wr) (fun i _ => k - (intOf i).toNat)
        case atStart => exact ⟨0, by omega, rfl, Lib.hid (by simp), hb⟩
        case round =>
          obtain ⟨j, hj, rfl, HJ, hb⟩ := hrel
          by_cases hlj : j < k
          · obtain ⟨ad1, e1', _, hc1⟩ := (h.below hb).int (i := j) (by omega)
            injection e1' with e1'
            subst e1'
            obtain ⟨ad2, e2', _, hc2⟩ := (h.below hb).int hlt
            injection e2' with e2'
            subst e2'
            rw [HYY.out] at hc2
            have T := take_snoc L j 0 (by omega)
            have g1 : (0 : Int) ≤ (j : Int) := by omega
            have g2 : (j : Int) < (L.length : Int) := by omega
            have g3 : (0 : Int) ≤ (k : Int) := by omega
            have g4 : (k : Int) < (L.length : Int) := by omega
            by_cases he : L.getD j 0 = y
            · have F := HN.out fun hh => (HON.out.1 hh).2.2 (by
                rw [← he, List.getD_eq_getElem?_getD, List.getElem?_eq_getElem (by omega), Option.getD_some]
                rw [List.mem_take_iff_getElem]
                exact ⟨j, by omega, rfl⟩)
              subst F
              rw [he] at hc1
              have e3 : (y == y) = true := by simp
              clear T he
              go_wp2
              go_quiet (fail)
              go_wp2
              go_ret
              exact ⟨rfl, New.trans hb (new_drewN _ _)⟩
            · have HT := Lib.hid (show y ∉ L.take (j + 1) by
                rw [T, List.mem_append, List.mem_singleton]
                rintro (hh | hh)
                · exact HJ.out hh
                · exact he hh.symm)
              have e3 : (L.getD j 0 == y) = false := by rw [beq_eq_false_iff_ne]; exact he
              clear T he
              generalize L.getD j 0 = x at *
              go_wp2
              go_quiet (fail)
              go_wp2
              go_roundw
              case rel => exact ⟨j + 1, by omega, by go_num, HT, New.trans hb (new_drewN _ _)⟩
              case measure => simp [intOf]; omega
          · obtain rfl : j = k := by omega
            have HK2 := Lib.hid (HON.out.2 ⟨HK.out, H1.out, HJ.out⟩)
            go_wp2
            go_roundw
            case rel => exact ⟨j + 1, by omega, by go_num, HK2, hb⟩
            case measure => simp [intOf]; omega
      · have F := HN.out fun hh => h1 (HON.out.1 hh).2.1
        subst F
        have h2 : y < 0 ∨ many ≤ y := by omega
        clear HN HON HO
        by_cases h3 : y < 0
        all_goals first
          | (have e1 : decide (y < 0) = true := by simpa using h3)
          | (have e1 : decide (y < 0) = false := by simpa using h3
             have e2 : decide (many ≤ y) = true := by simp; omega)
        all_goals
          clear h1 h2
          go_wp2
          go_ret
          exact ⟨rfl, hb⟩
    · obtain rfl : k = L.length := by omega
      have hM := HK.out
      rw [List.take_length] at hM
      have hO := HO.out
      unfold fitsB at hO
      by_cases hg : 0 ≤ f ∧ f ≤ t ∧ t ≤ rows
      · rw [decide_eq_true ⟨hM, hg⟩] at hO
        subst hO
        have d1 : decide (0 ≤ f) = true := by simp; omega
        have d2 : decide (f ≤ t) = true := by simp; omega
        have d3 : decide (t ≤ rows) = true := by simp; omega
        clear hg hM HK HO
        go_wp2
        go_ret
        exact ⟨rfl, hb⟩
      · rw [decide_eq_false fun hh => hg hh.2] at hO
        subst hO
        clear hM HK HO
        by_cases h1 : 0 ≤ f
        all_goals try (by_cases h2 : f ≤ t)
        all_goals try (have h3 : ¬ t ≤ rows := by omega)
        all_goals
          clear hg
          try (have d1 : decide (0 ≤ f) = true := by simpa using h1)
          try (have d1 : decide (0 ≤ f) = false := by simpa using h1)
          try (have d2 : decide (f ≤ t) = true := by simpa using h2)
          try (have d2 : decide (f ≤ t) = false := by simpa using h2)
          try (have d3 : decide (t ≤ rows) = false := by simpa using h3)
          go_wp2
          go_ret
          exact ⟨rfl, hb⟩

set_option maxHeartbeats 1000000 in
theorem rmay_any {w : World} {A : Option Addr} {n c : Nat} {L : List Int} {f t : Int} (h : Reads w w.heap.size 1 A n (ints .i64 L)) (hn : n ≤ 9223372036854775806) :
    Calls Try.prog 22 #[Qv A n c f t] w (NewPost (.bool (qmay L f t)) w) := by
  obtain rfl := h.lenI
  have b1 : New w (w.alloc (.cells #[.slice A L.length c, .int .i64 f, .int .i64 t] 24)) := (Below.refl _ _).alloc (Nat.le_refl _) _
  by_cases h1 : L.length ≤ 64
  · have d1 : decide ((L.length : Int) ≤ 64) = true := by simp; omega
    have F := Lib.hid (fits7_any (c := c) (f := f) (t := t) (many := 64) (rows := 65536) (Reads.later h b1) hn)
    rw [← qmay_fits] at F
    go_enter Try.func22, Try.ntmps22
    go_wp2_with (go_at_call 24; refine F.out.mono ?_; rintro e w2 ⟨rfl, b2⟩)
    go_ret
    exact ⟨rfl, New.trans b1 b2⟩
  · have d1 : decide ((L.length : Int) ≤ 64) = false := by simp; omega
    rw [qmay_few L f t (by omega)]
    go_enter Try.func22, Try.ntmps22
    go_wp2
    go_ret
    exact ⟨rfl, b1⟩

/-- A footer's head: so many columns and rows. -/
abbrev Fv (A : Option Addr) (n c : Nat) (rows : Int) (A2 : Option Addr) (n2 c2 : Nat) : Value := .agg #[.slice A n c, .int .i64 rows, .slice A2 n2 c2]

set_option maxHeartbeats 1000000 in
theorem rqfits_any {w : World} {A A1 A2 : Option Addr} {n c n1 c1 n2 c2 : Nat} {L : List Int} {f t rows : Int} (h : Reads w w.heap.size 1 A n (ints .i64 L)) (hn : n ≤ 9223372036854775806) :
    Calls Try.prog 13 #[Qv A n c f t, Fv A1 n1 c1 rows A2 n2 c2] w (NewPost (.bool (qfits L f t n1 rows)) w) := by
  have b1 : New w ((w.alloc (.cells #[.slice A n c, .int .i64 f, .int .i64 t] 24)).alloc (.cells #[.slice A1 n1 c1, .int .i64 rows, .slice A2 n2 c2] 28)) := ((Below.refl _ _).alloc (Nat.le_refl _) _).alloc (by simp) _
  have M1 := Lib.hid (rmay_any (c := c) (f := f) (t := t) (Reads.later h b1) hn)
  have F1 := Lib.hid (fun W (hW : New w W) => fits7_any (c := c) (f := f) (t := t) (many := n1) (rows := rows) (Reads.later h hW) hn)
  have Bq := Blk.alloc (Blk.new w 24 #[.slice A n c, .int .i64 f, .int .i64 t]) (.cells #[.slice A1 n1 c1, .int .i64 rows, .slice A2 n2 c2] 28)
  have Bf := Blk.new1 w (.cells #[.slice A n c, .int .i64 f, .int .i64 t] 24) 28 #[.slice A1 n1 c1, .int .i64 rows, .slice A2 n2 c2]
  have HQ := Lib.hid Bq
  have HF := Lib.hid Bf
  clear Bq Bf
  unfold qfits
  cases hm : qmay L f t
  all_goals
    rw [hm] at M1
    clear hm
    go_enter Try.func13, Try.ntmps13
    go_wp2_with (first
      | (go_at_call 22; refine M1.out.mono ?_; rintro e w2 ⟨rfl, b2⟩
         have b02 := New.trans b1 b2
         have Q2 := HQ.out.below b2 HQ.out.lt
         have F2 := HF.out.below b2 HF.out.lt
         have x0 : w2.cell? ⟨w.heap.size, 0, none⟩ = some (.slice A n c) := by rw [Q2.cell 0]; rfl
         have x1 : w2.cell? ⟨w.heap.size, 1, none⟩ = some (.int .i64 f) := by rw [Q2.cell 1]; rfl
         have x2 : w2.cell? ⟨w.heap.size, 2, none⟩ = some (.int .i64 t) := by rw [Q2.cell 2]; rfl
         have y0 : w2.cell? ⟨w.heap.size + 1, 0, none⟩ = some (.slice A1 n1 c1) := by rw [F2.cell 0]; rfl
         have y1 : w2.cell? ⟨w.heap.size + 1, 1, none⟩ = some (.int .i64 rows) := by rw [F2.cell 1]; rfl
         have G := Lib.hid (F1.out w2 b02)
         clear Q2 F2)
      | (go_at_call 24; refine G.out.mono ?_; rintro e w3 ⟨rfl, b3⟩))
    go_ret
    first
      | exact ⟨rfl, b02⟩
      | exact ⟨by simp, New.trans b02 b3⟩

set_option maxHeartbeats 2000000 in
set_option maxRecDepth 100000 in
theorem qfits_any {w : World} {A A1 A2 : Option Addr} {n c n1 c1 n2 c2 : Nat} {L : List Int} {f t rows : Int} (h : Reads w w.heap.size 1 A n (ints .i64 L)) (hn : n ≤ 9223372036854775806) (hL : ∀ x ∈ L, -9223372036854775808 ≤ x ∧ x ≤ 9223372036854775807) :
    Calls Try.prog 12 #[Qv A n c f t, Fv A1 n1 c1 rows A2 n2 c2] w (NewPost (.bool (qfits L f t n1 rows)) w) := by
  obtain rfl := h.lenI
  have b1 : New w ((w.alloc (.cells #[.slice A L.length c, .int .i64 f, .int .i64 t] 24)).alloc (.cells #[.slice A1 n1 c1, .int .i64 rows, .slice A2 n2 c2] 28)) := ((Below.refl _ _).alloc (Nat.le_refl _) _).alloc (by simp) _
  have M1 := Lib.hid (may_any (c := c) (f := f) (t := t) (Reads.later h b1) hn hL)
  have Bq := Blk.alloc (Blk.new w 24 #[.slice A L.length c, .int .i64 f, .int .i64 t]) (.cells #[.slice A1 n1 c1, .int .i64 rows, .slice A2 n2 c2] 28)
  have Bf := Blk.new1 w (.cells #[.slice A L.length c, .int .i64 f, .int .i64 t] 24) 28 #[.slice A1 n1 c1, .int .i64 rows, .slice A2 n2 c2]
  have HQ := Lib.hid Bq
  have HF := Lib.hid Bf
  clear Bq Bf
  have hcase : (qmay L f t = false ∧ qfits L f t n1 rows = false) ∨ (qmay L f t = true ∧ rows < t ∧ qfits L f t n1 rows = false) ∨ (qmay L f t = true ∧ t ≤ rows) := by
    cases hm : qmay L f t
    · exact .inl ⟨rfl, by unfold qfits; rw [hm]; rfl⟩
    · by_cases hr : t ≤ rows
      · exact .inr (.inr ⟨rfl, hr⟩)
      · refine .inr (.inl ⟨rfl, by omega, ?_⟩)
        rw [Bool.eq_false_iff, Ne, qfits_iff]
        intro hh; exact hr hh.2.1
  generalize hO : qfits L f t n1 rows = O at *
  have HO := Lib.hid hO
  clear hO
  rcases hcase with ⟨e1, rfl⟩ | ⟨e1, e2, rfl⟩ | ⟨e1, e2⟩
  all_goals
    rw [e1] at M1
    have HM := Lib.hid e1
    clear e1
    try (have d2 : decide (rows < t) = true := by simpa using e2)
    try (have d2 : decide (rows < t) = false := by simpa using e2)
    go_enter Try.func12, Try.ntmps12
    go_wp2_with (first
      | (go_at_call 20; refine M1.out.mono ?_; rintro e w2 ⟨rfl, b2⟩
         have b02 := New.trans b1 b2
         have Q2 := HQ.out.below b2 HQ.out.lt
         have F2 := HF.out.below b2 HF.out.lt
         have x0 : w2.cell? ⟨w.heap.size, 0, none⟩ = some (.slice A L.length c) := by rw [Q2.cell 0]; rfl
         have x2 : w2.cell? ⟨w.heap.size, 2, none⟩ = some (.int .i64 t) := by rw [Q2.cell 2]; rfl
         have y0 : w2.cell? ⟨w.heap.size + 1, 0, none⟩ = some (.slice A1 n1 c1) := by rw [F2.cell 0]; rfl
         have y1 : w2.cell? ⟨w.heap.size + 1, 1, none⟩ = some (.int .i64 rows) := by rw [F2.cell 1]; rfl
         clear Q2 F2))
    try (go_ret; exact ⟨rfl, b02⟩)
  go_loop [20] (fun i => ∃ k : Nat, k ≤ L.length ∧ i = .int .i64 (k : Int) ∧ Hid (∀ x ∈ L.take k, x < (n1 : Int))) (fun i => L.length - (intOf i).toNat)
  case atStart => exact ⟨0, by omega, rfl, Lib.hid (by simp)⟩
  case round =>
    obtain ⟨k, hk, rfl, HK⟩ := hrel
    by_cases hlt : k < L.length
    · obtain ⟨ad, rfl, hbk, hcell⟩ := (h.below b02).int hlt
      have T := take_snoc L k 0 hlt
      have no : ¬ L.getD k 0 < (n1 : Int) → O = false := fun hno => by
        rw [← HO.out, Bool.eq_false_iff, Ne, qfits_iff]
        intro hh
        refine hno (hh.2.2 _ ?_)
        rw [List.getD_eq_getElem?_getD, List.getElem?_eq_getElem hlt]
        exact List.getElem_mem hlt
      have HT := Lib.hid (show L.getD k 0 < (n1 : Int) → ∀ x ∈ L.take (k + 1), x < (n1 : Int) by
        intro hh x hx
        rw [T, List.mem_append, List.mem_singleton] at hx
        rcases hx with hx | rfl
        · exact HK.out x hx
        · exact hh)
      have HN := Lib.hid no
      clear T no
      generalize L.getD k 0 = y at *
      by_cases h1 : y < (n1 : Int)
      · have e3 : decide ((n1 : Int) ≤ y) = false := by simp; omega
        have HT2 := Lib.hid (HT.out h1)
        clear HT HN
        go_wp2
        go_round
        case rel => exact ⟨k + 1, by omega, by go_num, HT2⟩
        case measure => simp [intOf]; omega
      · have F := HN.out h1
        subst F
        have e3 : decide ((n1 : Int) ≤ y) = true := by simp; omega
        clear HN HT HO
        go_wp2
        go_ret
        exact ⟨rfl, b02⟩
    · obtain rfl : k = L.length := by omega
      have F : O = true := by
        rw [← HO.out, qfits_iff]
        have := HK.out
        rw [List.take_length] at this
        exact ⟨HM.out, e2, this⟩
      subst F
      clear HO HK
      go_wp2
      go_ret
      exact ⟨rfl, b02⟩

end Go.Proofs.Ytpdjgmhhbdfdcaa
