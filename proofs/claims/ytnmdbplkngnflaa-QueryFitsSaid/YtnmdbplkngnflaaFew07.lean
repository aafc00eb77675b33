/- Contract on law07.Few. -/
import Derived.Test.YtnmdbplkngnflaaOpenTb
import Derived.Outline

namespace Go.Proofs.Ytnmdbplkngnflaa
open Go.RowKit Go.Hm
/-- Some truth; nothing that was is turned. -/
def BoolNew (w : World) (e : Ending) (w' : World) : Prop := ∃ b, e = .returned (.bool b) ∧ New w w'
theorem mem_getDT {α : Type} {l : List α} {k : Nat} (d : α) (h : k < l.length) : l.getD k d ∈ l := by
  rw [List.getD_eq_getElem?_getD, List.getElem?_eq_getElem h]
  exact List.getElem_mem h
set_option maxHeartbeats 2000000 in
set_option maxRecDepth 100000 in
theorem few07_any {w : World} {Ac : Option Addr} {cc : Nat} {L : List ColS} {r : Int} {Ad : Option Addr} {cd : Nat} {D : List ColD} (h : TabIn w Ac cc L Ad D) :
    Calls Try.prog 5 #[.agg #[.slice Ac L.length cc, .int .i64 r, .slice Ad D.length cd]] w (BoolNew w) := by
  obtain ⟨W0, hW0⟩ : ∃ W, W = w.alloc (.cells #[.slice Ac L.length cc, .int .i64 r, .slice Ad D.length cd] 28) := ⟨_, rfl⟩
  have b0 : New w W0 := by rw [hW0]; exact (Below.refl _ _).alloc (Nat.le_refl _) _
  have B0 : Blk W0 w.heap.size 28 #[.slice Ac L.length cc, .int .i64 r, .slice Ad D.length cd] := by rw [hW0]; exact Blk.new _ _ _
  obtain ⟨x0, x1, x2⟩ := ccells B0
  have T := Lib.hid (h.later b0)
  have l1 := h.few
  have l2 := h.few2
  go_enter Try.func5, Try.ntmps5
  have HW := Lib.hid hW0
  rw [hW0] at x0 x1 x2
  clear hW0 h
  go_wp2_with fail
  rw [← HW.out]
  rw [← HW.out] at x0 x1 x2
  go_loopw [3, 4] (fun v i wr => ∃ (k : Nat) (x : Int), i = .int .i64 (k : Int) ∧ v = .int .i64 x ∧ k ≤ L.length ∧ W0 = wr) (fun _ i _ => L.length - (intOf i).toNat)
  case atStart => exact ⟨0, 0, rfl, rfl, by omega, rfl⟩
  case round =>
    obtain ⟨k, x, rfl, rfl, hk, rfl⟩ := hrel
    by_cases hlt : k < L.length
    · obtain ⟨ad, rfl, hbk, d0, d1, d2⟩ := T.out.cols.colT hlt
      have hx := (T.out.fine _ (mem_getDT ([], 0, false) hlt)).2
      generalize (L.getD k ([], 0, false)).1 = s2 at *
      have zs := bstr_size s2
      have hiz : (k : Int) < (L.length : Int) := by omega
      generalize hy : IntKind.i64.wrap (x + (s2.length : Int)) = y
      go_wp2
      go_roundw
      case rel => exact ⟨k + 1, _, by go_num, rfl, by omega, trivial⟩
      case measure => simp [intOf]; omega
    · obtain rfl : k = L.length := by omega
      go_wp2
      go_loopw [3, 5] (fun v i wr => ∃ (k : Nat) (x : Int), i = .int .i64 (k : Int) ∧ v = .int .i64 x ∧ k ≤ D.length ∧ W0 = wr) (fun _ i _ => D.length - (intOf i).toNat)
      case atStart => exact ⟨0, _, rfl, rfl, by omega, rfl⟩
      case round =>
        obtain ⟨k, x, rfl, rfl, hk, rfl⟩ := hrel
        by_cases hlt : k < D.length
        · obtain ⟨ad, rfl, hbk, c0⟩ := T.out.data.colD hlt
          have E := Lib.hid (T.out.within _ (mem_getDT (none, 0, []) hlt))
          generalize (D.getD k (none, 0, [])).1 = aA at *
          generalize (D.getD k (none, 0, [])).2.2 = l at *
          generalize (D.getD k (none, 0, [])).2.1 = cA at *
          have hiz : (k : Int) < (D.length : Int) := by omega
          have hll : l.length ≤ 9223372036854775807 := by have := E.out.2.2.1; have := E.out.2.2.2.1; omega
          generalize hy : IntKind.i64.wrap (x + (l.length : Int)) = y
          go_wp2
          go_loopw [3, 6] (fun v i wr => ∃ (j : Nat) (x : Int), i = .int .i64 (j : Int) ∧ v = .int .i64 x ∧ j ≤ l.length ∧ W0 = wr) (fun _ i _ => l.length - (intOf i).toNat)
          case atStart => exact ⟨0, _, rfl, rfl, by omega, rfl⟩
          case round =>
            obtain ⟨j, x, rfl, rfl, hj, rfl⟩ := hrel
            by_cases hlt2 : j < l.length
            · obtain ⟨E1, E2, _⟩ := E.out
              obtain ⟨ad2, e2, hbk2, d0, d1, d2, d3, d4⟩ := E1.cell5 hlt2
              subst e2
              have hx := (E2 _ (mem_getDT (false, 0, [], 0, 0) hlt2)).1
              generalize (l.getD j (false, 0, [], 0, 0)).2.2.1 = s2 at *
              have zs := bstr_size s2
              have hiz2 : (j : Int) < (l.length : Int) := by omega
              generalize hy2 : IntKind.i64.wrap (x + (s2.length : Int)) = y2
              clear E1 E2 d0 d1 d3 d4
              go_wp2
              go_roundw
              case rel => exact ⟨j + 1, _, by go_num, rfl, by omega, trivial⟩
              case measure => simp [intOf]; omega
            · obtain rfl : j = l.length := by omega
              go_wp2
              go_roundw
              case rel => exact ⟨k + 1, _, by go_num, rfl, by omega, trivial⟩
              case measure => simp [intOf]; omega
        · obtain rfl : k = D.length := by omega
          go_wp2
          all_goals go_ret
          all_goals exact ⟨_, rfl, b0⟩

end Go.Proofs.Ytnmdbplkngnflaa
