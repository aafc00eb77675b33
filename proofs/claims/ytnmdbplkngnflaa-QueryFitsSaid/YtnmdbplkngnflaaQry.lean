/- Contracts of package query: which queries may be. -/
import Derived.Test.YtnmdbplkngnflaaCurS
import Derived.Test.YtnmdbplkngnflaaOpt
import Derived.Test.YtnmdbplkngnflaaUpT
import Derived.Test.YtnmdbplkngnflaaQryM
import Derived.Outline

namespace Go.Proofs.Ytnmdbplkngnflaa
open Go.RowKit Go.Hm
/-- A query. -/
abbrev Qv (A : Option Addr) (n c : Nat) (f t : Int) : Value := .agg #[.slice A n c, .int .i64 f, .int .i64 t]

set_option maxHeartbeats 2000000 in
set_option maxRecDepth 100000 in
theorem may_any {w : World} {A : Option Addr} {n c : Nat} {L : List Int} {f t : Int} (h : Reads w w.heap.size 1 A n (ints .i64 L)) (hn : n ≤ 9223372036854775806) (hL : ∀ x ∈ L, -9223372036854775808 ≤ x ∧ x ≤ 9223372036854775807) :
    Calls Try.prog 17 #[Qv A n c f t] w (NewPost (.bool (qmay L f t)) w) := by
  obtain rfl := h.lenI
  by_cases hg : 0 ≤ f ∧ f ≤ t ∧ t ≤ 65536
  · have d1 : decide (f < 0) = false := by simp; omega
    have d2 : decide (t < f) = false := by simp; omega
    have d3 : decide (65536 < t) = false := by simp; omega
    have HG := Lib.hid hg
    clear hg
    go_enter Try.func17, Try.ntmps17
    go_wp2
    go_loopw [24] (fun i wr => ∃ k : Nat, k ≤ L.length ∧ i = .int .i64 (k : Int) ∧ Hid (okCols (L.take k)) ∧ Blk wr (w.heap.size + 1) 66 (seenB (L.take k)).toArray ∧ New w wr) (fun i _ => L.length - (intOf i).toNat)
    case atStart => exact ⟨0, by omega, rfl, Lib.hid ⟨by simp, by simp⟩, by rw [List.take_zero, seenB_nil]; exact Blk.new1 _ _ _ _, ((Below.refl _ _).alloc (Nat.le_refl _) _).alloc (by simp) _⟩
    case round =>
      obtain ⟨k, hk, rfl, HO, HB, hb⟩ := hrel
      by_cases hlt : k < L.length
      · obtain ⟨ad, rfl, hbk, hcell⟩ := (h.below hb).int hlt
        have T := take_snoc L k 0 hlt
        have hx := getD_memI hL hlt
        have ON := okCols_snoc (L.take k) (L.getD k 0)
        rw [← T] at ON
        have HT := Lib.hid T
        have no : ¬ okCols (L.take (k + 1)) → qmay L f t = false := fun hno => decide_eq_false fun hh => hno (okCols_take hh.2 _)
        clear T
        generalize L.getD k 0 = y at *
        have HN := Lib.hid no
        have HON := Lib.hid ON
        clear ON no
        by_cases h1 : 0 ≤ y ∧ y < 64
        · obtain ⟨y, rfl⟩ := Int.eq_ofNat_of_zero_le h1.1
          have hc := HB.cell y
          rw [List.getElem?_toArray, seenB_at _ y (by omega)] at hc
          have hf := HB.frozen y
          have e1 : decide ((y : Int) < 0) = false := by simp
          have e2 : decide ((64 : Int) ≤ (y : Int)) = false := by simp; omega
          have e3 : (y : Int) < 64 := h1.2
          have e4 : (0 : Int) ≤ (y : Int) := by omega
          have HB2 := Lib.hid HB
          by_cases hm : (y : Int) ∈ L.take k
          · rw [decide_eq_true hm] at hc
            have F := Lib.hid (HN.out fun hh => (HON.out.1 hh).2.2 hm)
            clear hm h1 HB
            go_wp2
            go_ret
            exact ⟨by rw [F.out]; rfl, hb⟩
          · rw [decide_eq_false hm] at hc
            have HO2 := Lib.hid (HON.out.2 ⟨HO.out, h1, hm⟩)
            clear hm h1 HB
            go_wp2
            go_roundw
            case rel => exact ⟨k + 1, by omega, by go_num, HO2, by
              have := HB2.out.set_ y (.bool true)
              rw [List.setIfInBounds_toArray, seenB_set _ y (by omega), ← HT.out] at this
              exact this, hb.setCell (show w.heap.size ≤ w.heap.size + 1 by omega) _⟩
            case measure => simp [intOf]; omega
        · have F := Lib.hid (HN.out fun hh => h1 (HON.out.1 hh).2.1)
          have h2 : y < 0 ∨ 64 ≤ y := by omega
          clear HB HN HON
          by_cases h3 : y < 0
          all_goals first
            | (have e1 : decide (y < 0) = true := by simpa using h3)
            | (have e1 : decide (y < 0) = false := by simpa using h3
               have e2 : decide (64 ≤ y) = true := by simp; omega)
          all_goals
            clear h1 h2
            go_wp2
            go_ret
            exact ⟨by rw [F.out]; rfl, hb⟩
      · obtain rfl : k = L.length := by omega
        have F := Lib.hid (show qmay L f t = true from decide_eq_true ⟨HG.out, by have := HO.out; rwa [List.take_length] at this⟩)
        clear HB
        go_wp2
        go_ret
        exact ⟨by rw [F.out]; rfl, hb⟩
  · have F := Lib.hid (show qmay L f t = false from decide_eq_false fun hh => hg hh.1)
    have b1 : New w (w.alloc (.cells #[.slice A L.length c, .int .i64 f, .int .i64 t] 24)) := (Below.refl _ _).alloc (Nat.le_refl _) _
    by_cases h1 : f < 0
    all_goals try (by_cases h2 : t < f)
    all_goals try (have h3 : 65536 < t := by omega)
    all_goals
      clear hg
      go_enter Try.func17, Try.ntmps17
      go_wp2
      go_ret
      exact ⟨by rw [F.out]; rfl, b1⟩

end Go.Proofs.Ytnmdbplkngnflaa
