/- Contract on ref07.Fits. -/
import Derived.Test.YtcnaameebbcmhaaCellP

namespace Go.Hm
open Go Go.RowKit
/-- Do columns and rows fit so many of them? -/
def fitsB (l : List Int) (fr to_ : Int) (m : Nat) (r : Int) : Bool := placesB l m && (decide (0 ≤ fr) && decide (fr ≤ to_) && decide (to_ ≤ r))

end Go.Hm

namespace Go.Proofs.Ytcnaameebbcmhaa
open Go.RowKit Go.Hm
set_option maxHeartbeats 2000000 in
set_option maxRecDepth 100000 in
theorem fits_any {w : World} {A : Option Addr} {n c : Nat} {l : List Int} {m : Nat} {fr to_ r : Int} (h : Reads w w.heap.size 1 A n (ints .i64 l)) (hn : n ≤ 4611686018427387903) :
    Calls Try.prog 34 #[.slice A n c, .int .i64 fr, .int .i64 to_, .int .i64 (m : Int), .int .i64 r] w (DrewPost (.bool (fitsB l fr to_ m r)) w) := by
  obtain rfl := h.lenI
  have K1 := Lib.hid (fun (hh : ∀ k, k < l.length → 0 ≤ l.getD k 0 ∧ l.getD k 0 < (m : Int) ∧ l.getD k 0 ∉ l.take k) => show fitsB l fr to_ m r = (decide (0 ≤ fr) && decide (fr ≤ to_) && decide (to_ ≤ r)) by rw [fitsB, places_of hh, Bool.true_and])
  have K2 := Lib.hid (fun (k : Nat) (hk : k < l.length) (hh : ¬ (0 ≤ l.getD k 0 ∧ l.getD k 0 < (m : Int) ∧ l.getD k 0 ∉ l.take k)) => show fitsB l fr to_ m r = false by rw [fitsB, Bool.eq_false_iff.2 (fun e => hh (places_at e hk)), Bool.false_and])
  generalize fitsB l fr to_ m r = O at *
  rw [← ints_recs] at h
  go_enter Try.func34, Try.ntmps34
  go_wp2
  go_loopw [11] (fun i wr => ∃ k q : Nat, i = .int .i64 (k : Int) ∧ k ≤ l.length ∧ wr = w.drewN q ∧ Hid (∀ k', k' < k → 0 ≤ l.getD k' 0 ∧ l.getD k' 0 < (m : Int) ∧ l.getD k' 0 ∉ l.take k')) (fun i _ => l.length - (intOf i).toNat)
  case atStart => exact ⟨0, 0, rfl, by omega, rfl, Lib.hid (by intro k' hk'; omega)⟩
  case round =>
    obtain ⟨k, q, rfl, hk, rfl, H⟩ := hrel
    by_cases hlt : k < l.length
    · obtain ⟨ad, rfl, hbk, c0⟩ := h.int1 hlt
      have M1 := Lib.hid (K2.out k hlt)
      have M2 := Lib.hid (fun (hh : 0 ≤ l.getD k 0 ∧ l.getD k 0 < (m : Int) ∧ l.getD k 0 ∉ l.take k) => show ∀ k', k' < k + 1 → 0 ≤ l.getD k' 0 ∧ l.getD k' 0 < (m : Int) ∧ l.getD k' 0 ∉ l.take k' by
        intro k' hk'
        rcases Nat.lt_succ_iff_lt_or_eq.1 hk' with hk' | rfl
        · exact H.out k' hk'
        · exact hh)
      have HX := Lib.hid (rfl : l.getD k 0 = l.getD k 0)
      obtain ⟨y, hy⟩ : ∃ y, y = l.getD k 0 := ⟨_, rfl⟩
      rw [← hy] at c0
      have HY := Lib.hid hy
      clear hy HX H
      have hiz : (k : Int) < (l.length : Int) := by omega
      by_cases h1 : y < 0
      · have O1 := Lib.hid (M1.out (fun hh => by rw [← HY.out] at hh; omega))
        clear M1 M2
        go_wp2
        go_ret
        exact ⟨by rw [O1.out]; rfl, _, rfl⟩
      · by_cases h2 : (m : Int) ≤ y
        · have O1 := Lib.hid (M1.out (fun hh => by rw [← HY.out] at hh; omega))
          clear M1 M2
          go_wp2
          go_ret
          exact ⟨by rw [O1.out]; rfl, _, rfl⟩
        · have M3 := Lib.hid (fun (hh : l.getD k 0 ∉ l.take k) => M2.out ⟨by rw [← HY.out]; omega, by rw [← HY.out]; omega, hh⟩)
          have M4 := Lib.hid (fun (hh : l.getD k 0 ∈ l.take k) => M1.out (fun h' => h'.2.2 hh))
          clear M1 M2
          go_wp2
          go_loopw [12] (fun i wr => ∃ j q : Nat, i = .int .i64 (j : Int) ∧ j ≤ k ∧ wr = w.drewN q ∧ Hid (l.getD k 0 ∉ l.take j)) (fun i _ => k - (intOf i).toNat)
          case atStart => exact ⟨0, q, rfl, by omega, rfl, Lib.hid (by simp)⟩
          case round =>
            obtain ⟨j, q, rfl, hj, rfl, H⟩ := hrel
            by_cases hlj : j < k
            · obtain ⟨ad2, e2, _, d0⟩ := h.int1 (show j < l.length by omega)
              obtain rfl := Option.some.inj e2
              have N1 := Lib.hid (fun (hh : l.getD j 0 = l.getD k 0) => M4.out (by
                rw [← hh]
                have : l.getD j 0 ∈ (l.take k) := by
                  have hjl : j < (l.take k).length := by rw [List.length_take]; omega
                  have e : (l.take k).getD j 0 = l.getD j 0 := by simp [List.getD_eq_getElem?_getD, hlj]
                  rw [← e, List.getD_eq_getElem?_getD, List.getElem?_eq_getElem hjl]
                  exact List.getElem_mem hjl
                exact this))
              have N2 := Lib.hid (fun (hh : ¬ l.getD j 0 = l.getD k 0) => show l.getD k 0 ∉ l.take (j + 1) by
                rw [take_snoc l j 0 (by omega), List.mem_append, List.mem_singleton]
                rintro (h' | h')
                · exact H.out h'
                · exact hh h'.symm)
              rw [← HY.out] at N1 N2
              generalize l.getD j 0 = x at *
              have hjz : (j : Int) < (l.length : Int) := by omega
              by_cases he : x = y
              · have O1 := Lib.hid (N1.out he)
                have e1 : (x == y) = true := by simpa using he
                clear N1 N2 he
                go_wp2
                go_quiet (fail)
                go_wp2
                go_ret
                exact ⟨by rw [O1.out]; rfl, _, drewN_add _ _ _⟩
              · have O1 := Lib.hid (N2.out he)
                have e1 : (x == y) = false := by simpa using he
                clear N1 N2 he
                go_wp2
                go_quiet (fail)
                go_wp2
                go_roundw
                case rel => exact ⟨j + 1, _, by go_num, by omega, (by first | rfl | exact drewN_add _ _ _), by rw [← HY.out]; exact O1⟩
                case measure => simp [intOf]; omega
            · obtain rfl : j = k := by omega
              have O1 := Lib.hid (M3.out H.out)
              go_wp2
              go_roundw
              case rel => exact ⟨j + 1, _, by go_num, by omega, rfl, O1⟩
              case measure => simp [intOf]; omega
    · obtain rfl : k = l.length := by omega
      have O1 := Lib.hid (K1.out H.out)
      clear H K1 K2
      by_cases g1 : 0 ≤ fr <;> by_cases g2 : fr ≤ to_ <;> by_cases g3 : to_ ≤ r
      all_goals
        go_wp2
        go_ret
        exact ⟨by rw [O1.out]; simp [*], _, rfl⟩

end Go.Proofs.Ytcnaameebbcmhaa
