/- Contracts of layout's Check and of its answer. -/
import Derived.Test.YtpbfohgmhjadpaaLayO

namespace Go.Hm
open Go.RowKit
/-- Does an encoding fit a type? -/
def fitsV (typ enc : Int) : Bool := decide ((enc = 0 ∨ enc = 1) ∧ 0 ≤ typ ∧ typ ≤ 3 ∨ enc = 2 ∧ (typ = 0 ∨ typ = 1) ∨ enc = 3 ∧ (typ = 0 ∨ typ = 3) ∨ enc = 4 ∧ typ = 2)
/-- A column: its name, its type, whether it may have nulls. -/
abbrev ColS := List Nat × Int × Bool
def colV (c : ColS) : List Value := [.string (bstr c.1), .int .i64 c.2.1, .bool c.2.2]
def encOk (t e : Int) : Prop := e = -1 ∨ fitsV t e = true
instance (t e : Int) : Decidable (encOk t e) := by unfold encOk; exact inferInstance
def confCk (g p : Int) (encs : List Int) (cols : List ColS) : Int :=
  if ¬ (1 ≤ g ∧ g ≤ 65536 ∧ 1 ≤ p ∧ p ≤ 65536 ∧ encs.length = cols.length) then 1 else if ∀ i, i < encs.length → encOk (cols.getD i ([], 0, false)).2.1 (encs.getD i 0) then 0 else 3
/-- The type of a column, as the walk reads it. -/
theorem Reads.colT {w : World} {B n i : Nat} {A : Option Addr} {l : List ColS} (h : Reads w B 3 A n (recs colV l)) (hi : i < n) :
    ∃ ad, A = some ad ∧ ad.block < B ∧ w.cell? (ad.add (i * 3)) = some (.string (bstr (l.getD i ([], 0, false)).1)) ∧ w.cell? ⟨(ad.add (i * 3)).block, (ad.add (i * 3)).off + 1, none⟩ = some (.int .i64 (l.getD i ([], 0, false)).2.1) ∧ w.cell? ⟨(ad.add (i * 3)).block, (ad.add (i * 3)).off + 2, none⟩ = some (.bool (l.getD i ([], 0, false)).2.2) := by
  obtain ⟨ad, h1, h2, _, h3⟩ := h.rec_ (f := colV) (sz := 3) (fun _ => rfl) ([], 0, false) hi (by omega)
  refine ⟨ad, h1, h2, h3 0 _ rfl, ?_, ?_⟩
  · have := h3 1 _ rfl
    rw [← add_of_add] at this
    exact this
  · have := h3 2 _ rfl
    rw [← add_of_add] at this
    exact this
theorem Reads.lenC {w : World} {B n : Nat} {A : Option Addr} {l : List ColS} (h : Reads w B 3 A n (recs colV l)) : n = l.length := h.lenR (f := colV) (sz := 3) (fun _ => rfl) (by omega)

end Go.Hm

namespace Go.Proofs.Ytpbfohgmhjadpaa
open Go.RowKit Go.Hm

set_option maxHeartbeats 1000000 in
theorem vfits_any (t e : Int) (w : World) : Calls Try.prog 21 #[.int .i64 t, .int .i64 e] w (ValPost (.bool (fitsV t e)) w) := by
  generalize hO : fitsV t e = O
  have HO := Lib.hid hO
  clear hO
  go_enter Try.func21, Try.ntmps21
  go_wp2
  all_goals go_ret
  all_goals
    simp only [beq_iff_eq, beq_eq_false_iff_ne, ne_eq] at *
    rw [← HO.out]
    refine ⟨congrArg (fun b => Ending.returned (.bool b)) ?_, rfl⟩
    rw [Bool.eq_iff_iff]
    simp only [fitsV, decide_eq_true_eq, Bool.or_eq_true, beq_iff_eq, Bool.false_eq_true, false_iff, true_iff]
    omega

set_option maxHeartbeats 1000000 in
theorem rfits_any (t e : Int) (w : World) : Calls Try.prog 22 #[.int .i64 t, .int .i64 e] w (ValPost (.bool (fitsV t e)) w) := by
  generalize hO : fitsV t e = O
  have HO := Lib.hid hO
  clear hO
  go_enter Try.func22, Try.ntmps22
  go_wp2
  all_goals go_ret
  all_goals
    simp only [beq_iff_eq, beq_eq_false_iff_ne, ne_eq] at *
    rw [← HO.out]
    refine ⟨congrArg (fun b => Ending.returned (.bool b)) ?_, rfl⟩
    rw [Bool.eq_iff_iff]
    simp only [fitsV, decide_eq_true_eq, Bool.or_eq_true, beq_iff_eq, Bool.false_eq_true, false_iff, true_iff]
    omega

theorem lrows_any (n : Int) (w : World) : Calls Try.prog 20 #[.int .i64 n] w (ValPost (.bool (decide (1 ≤ n ∧ n ≤ 65536))) w) := by
  generalize hO : decide (1 ≤ n ∧ n ≤ 65536) = O
  have HO := Lib.hid hO
  clear hO
  go_enter Try.func20, Try.ntmps20
  go_wp2
  all_goals go_ret
  all_goals
    rw [← HO.out]
    refine ⟨congrArg (fun b => Ending.returned (.bool b)) ?_, rfl⟩
    rw [Bool.eq_iff_iff]
    simp only [decide_eq_true_eq, Bool.false_eq_true, false_iff]
    omega

abbrev Cv (g p : Int) (A : Option Addr) (n c : Nat) : Value := .agg #[.int .i64 g, .int .i64 p, .slice A n c]
theorem ccells {w : World} {g : Nat} {ty : TypeId} {x y z : Value} (h : Blk w g ty #[x, y, z]) : w.cell? ⟨g, 0, none⟩ = some x ∧ w.cell? ⟨g, 1, none⟩ = some y ∧ w.cell? ⟨g, 2, none⟩ = some z := by
  have h0 := h.cell 0
  have h1 := h.cell 1
  have h2 := h.cell 2
  simp at h0 h1 h2
  exact ⟨h0, h1, h2⟩

theorem confCk_ok {g p : Int} {E : List Int} {L : List ColS} (hg : 1 ≤ g ∧ g ≤ 65536 ∧ 1 ≤ p ∧ p ≤ 65536 ∧ E.length = L.length) (h : ∀ i, i < E.length → encOk (L.getD i ([], 0, false)).2.1 (E.getD i 0)) : confCk g p E L = 0 := by
  unfold confCk; rw [if_neg (by simpa using hg), if_pos h]
theorem confCk_bad {g p : Int} {E : List Int} {L : List ColS} (hg : 1 ≤ g ∧ g ≤ 65536 ∧ 1 ≤ p ∧ p ≤ 65536 ∧ E.length = L.length) {i : Nat} (hi : i < E.length) (h : ¬ encOk (L.getD i ([], 0, false)).2.1 (E.getD i 0)) : confCk g p E L = 3 := by
  unfold confCk; rw [if_neg (by simpa using hg), if_neg (fun hh => h (hh i hi))]
theorem confCk_no {g p : Int} {E : List Int} {L : List ColS} (hg : ¬ (1 ≤ g ∧ g ≤ 65536 ∧ 1 ≤ p ∧ p ≤ 65536 ∧ E.length = L.length)) : confCk g p E L = 1 := by
  unfold confCk; rw [if_pos hg]

set_option maxHeartbeats 2000000 in
set_option maxRecDepth 100000 in
theorem lcheck_any {w : World} {A A2 : Option Addr} {n c n2 c2 : Nat} {g p : Int} {E : List Int} {L : List ColS} (h : Reads w w.heap.size 1 A n (ints .i64 E)) (h2 : Reads w w.heap.size 3 A2 n2 (recs colV L)) (hn : n ≤ 4611686018427387903) :
    Calls Try.prog 15 #[Cv g p A n c, .slice A2 n2 c2] w (NewPost (.int .i64 (confCk g p E L)) w) := by
  have l1 := h.lenI
  have l2 := h2.lenC
  have b0 : New w (w.alloc (.cells #[.int .i64 g, .int .i64 p, .slice A n c] 32)) := (Below.refl _ _).alloc (Nat.le_refl _) _
  have B0 := Blk.new w 32 #[.int .i64 g, .int .i64 p, .slice A n c]
  obtain ⟨x0, x1, x2⟩ := ccells B0
  have R1 := Lib.hid (fun W => lrows_any g W)
  have R2 := Lib.hid (fun W => lrows_any p W)
  by_cases hg : 1 ≤ g ∧ g ≤ 65536 ∧ 1 ≤ p ∧ p ≤ 65536 ∧ E.length = L.length
  · rw [decide_eq_true (show 1 ≤ g ∧ g ≤ 65536 by omega)] at R1
    rw [decide_eq_true (show 1 ≤ p ∧ p ≤ 65536 by omega)] at R2
    have K1 := Lib.hid (fun hh => confCk_ok hg hh)
    have K2 := Lib.hid (fun (i : Nat) (hi : i < n) hh => confCk_bad hg (i := i) (by omega) hh)
    have hll : n2 = n := by omega
    have HL := Lib.hid l1
    subst hll
    generalize confCk g p E L = O at *
    have r1 := Reads.later h b0
    have r2 := Reads.later h2 b0
    clear hg B0 h h2 l1 l2
    go_enter Try.func15, Try.ntmps15
    go_wp2_with (first
      | (go_at_call 20; (with_reducible refine (R1.out _).mono ?_); rintro e w1 ⟨rfl, rfl⟩)
      | (go_at_call 20; (with_reducible refine (R2.out _).mono ?_); rintro e w1 ⟨rfl, rfl⟩))
    clear x0 x1 x2 R1 R2
    obtain ⟨W0, hW0⟩ : ∃ W, W = w.alloc (.cells #[.int .i64 g, .int .i64 p, .slice A n2 c] 32) := ⟨_, rfl⟩
    rw [← hW0] at b0 r1 r2 ⊢
    clear hW0
    go_loopw [28] (fun i wr => ∃ k : Nat, i = .int .i64 (k : Int) ∧ k ≤ n2 ∧ W0 = wr ∧ Hid (∀ j, j < k → encOk (L.getD j ([], 0, false)).2.1 (E.getD j 0))) (fun i _ => n2 - (intOf i).toNat)
    case atStart => exact ⟨0, rfl, by omega, rfl, Lib.hid (fun j hj => by omega)⟩
    case round =>
      obtain ⟨k, rfl, hk, rfl, H⟩ := hrel
      by_cases hlt : k < n2
      · obtain ⟨ad, rfl, hb, hc⟩ := r1.int hlt
        obtain ⟨ad2, rfl, hb2, hc0, hc1, hc2⟩ := r2.colT hlt
        have K2 := Lib.hid (K2.out k hlt)
        have N := Lib.hid (show encOk (L.getD k ([], 0, false)).2.1 (E.getD k 0) → ∀ j, j < k + 1 → encOk (L.getD j ([], 0, false)).2.1 (E.getD j 0) from fun hh j hj => by
          by_cases e : j = k
          · subst e; exact hh
          · exact H.out j (by omega))
        generalize (L.getD k ([], 0, false)).2.1 = t at *
        generalize E.getD k 0 = e at *
        generalize (L.getD k ([], 0, false)).2.2 = x3 at *
        generalize (L.getD k ([], 0, false)).1 = x4 at *
        have hiz : (k : Int) < (n2 : Int) := by omega
        have F := Lib.hid (fun W => vfits_any t e W)
        by_cases he : e = -1
        · have N2 := Lib.hid (N.out (.inl he))
          subst he
          go_wp2
          go_roundw
          case rel => exact ⟨k + 1, by go_num, by omega, trivial, N2⟩
          case measure => simp [intOf]; omega
        · have e1 : (e != -1) = true := by simpa using he
          cases hf : fitsV t e
          · have K3 := Lib.hid (K2.out (fun hh => by rcases hh with hh | hh; exact he hh; rw [hf] at hh; cases hh))
            rw [hf] at F
            clear hf he
            go_wp2_with (go_at_call 21; (with_reducible refine (F.out _).mono ?_); rintro e w1 ⟨rfl, rfl⟩)
            go_ret
            exact ⟨by rw [K3.out]; rfl, b0⟩
          · have N2 := Lib.hid (N.out (.inr hf))
            rw [hf] at F
            clear hf he
            go_wp2_with (go_at_call 21; (with_reducible refine (F.out _).mono ?_); rintro e w1 ⟨rfl, rfl⟩)
            go_roundw
            case rel => exact ⟨k + 1, by go_num, by omega, trivial, N2⟩
            case measure => simp [intOf]; omega
      · have K3 := Lib.hid (K1.out (fun i hi => H.out i (by have := HL.out; omega)))
        go_wp2
        go_ret
        exact ⟨by rw [K3.out]; rfl, b0⟩
  · have K := Lib.hid (confCk_no hg)
    generalize confCk g p E L = O at *
    by_cases h1 : 1 ≤ g ∧ g ≤ 65536
    all_goals try (rw [decide_eq_true h1] at R1)
    all_goals try (rw [decide_eq_false h1] at R1)
    all_goals try (by_cases h2 : 1 ≤ p ∧ p ≤ 65536)
    all_goals try (rw [decide_eq_true h2] at R2)
    all_goals try (rw [decide_eq_false h2] at R2)
    all_goals try (have d2 : ((n : Int) != (n2 : Int)) = true := by simp; omega)
    all_goals
      clear hg B0 l1 l2 h1
      go_enter Try.func15, Try.ntmps15
      go_wp2_with (first
        | (go_at_call 20; (with_reducible refine (R1.out _).mono ?_); rintro e w1 ⟨rfl, rfl⟩)
        | (go_at_call 20; (with_reducible refine (R2.out _).mono ?_); rintro e w1 ⟨rfl, rfl⟩))
      go_ret
      exact ⟨by rw [K.out]; rfl, b0⟩

end Go.Proofs.Ytpbfohgmhjadpaa
