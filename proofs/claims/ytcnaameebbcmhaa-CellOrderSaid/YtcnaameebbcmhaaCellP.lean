/- Contracts: slices.Index, slices.Contains of numbers, and cell.places. -/
import Derived.Test.YtcnaameebbcmhaaCellV
import Derived.Test.YtcnaameebbcmhaaOpt
import Derived.Test.YtcnaameebbcmhaaUp
import Derived.Test.YtcnaameebbcmhaaRec
import Derived.Outline
import Derived.Deep.QuietTactic
import Derived.BigQuiet

namespace Go.Hm
open Go Go.RowKit
/-- Is each of the numbers the place of one of n, and there once? -/
def placesB (l : List Int) (n : Nat) : Bool := (List.range l.length).all fun k => decide (0 ≤ l.getD k 0 ∧ l.getD k 0 < (n : Int) ∧ l.getD k 0 ∉ l.take k)
theorem places_of {l : List Int} {n : Nat} (h : ∀ k, k < l.length → 0 ≤ l.getD k 0 ∧ l.getD k 0 < (n : Int) ∧ l.getD k 0 ∉ l.take k) : placesB l n = true := by
  refine List.all_eq_true.2 fun k hk => ?_
  exact decide_eq_true (h k (List.mem_range.1 hk))
theorem places_at {l : List Int} {n : Nat} (h : placesB l n = true) {k : Nat} (hk : k < l.length) : 0 ≤ l.getD k 0 ∧ l.getD k 0 < (n : Int) ∧ l.getD k 0 ∉ l.take k :=
  of_decide_eq_true (List.all_eq_true.1 h k (List.mem_range.2 hk))
theorem Reads.int1 {w : World} {B n i : Nat} {A : Option Addr} {l : List Int} (h : Reads w B 1 A n (recs (fun n : Int => [.int .i64 n]) l)) (hi : i < n) :
    ∃ ad, A = some ad ∧ ad.block < B ∧ w.cell? (ad.add i) = some (.int .i64 (l.getD i 0)) := by
  obtain ⟨ad, h1, h2, _, h3⟩ := h.rec_ (f := fun n : Int => [.int .i64 n]) (sz := 1) (fun _ => rfl) 0 hi (by omega)
  have := h3 0 _ rfl
  rw [Nat.mul_one] at this
  exact ⟨ad, h1, h2, this⟩
/-- What slices.Index answers: -1 just if it is not there. -/
def IxPost (l : List Int) (x : Int) (w : World) (e : Ending) (w' : World) : Prop := ∃ r : Int, e = .returned (.int .i64 r) ∧ (0 ≤ r ↔ x ∈ l) ∧ w = w'

end Go.Hm

namespace Go.Proofs.Ytcnaameebbcmhaa
open Go.RowKit Go.Hm
set_option maxHeartbeats 2000000 in
set_option maxRecDepth 100000 in
theorem index_any {w : World} {A : Option Addr} {n c : Nat} {l : List Int} {x : Int} (h : Reads w w.heap.size 1 A n (ints .i64 l)) (hn : n ≤ 4611686018427387903) :
    Calls Try.prog 47 #[.slice A n c, .int .i64 x] w (IxPost l x w) := by
  obtain rfl := h.lenI
  rw [← ints_recs] at h
  go_enter Try.func47, Try.ntmps47
  go_wp2
  go_loop [8] (fun i => ∃ k : Nat, i = .int .i64 (k : Int) ∧ k ≤ l.length ∧ Hid (x ∉ l.take k)) (fun i => l.length - (intOf i).toNat)
  case atStart => exact ⟨0, rfl, by omega, Lib.hid (by simp)⟩
  case round =>
    obtain ⟨k, rfl, hk, H⟩ := hrel
    by_cases hlt : k < l.length
    · obtain ⟨ad, rfl, hbk, c0⟩ := h.int1 hlt
      have M1 := Lib.hid (fun (hh : x = l.getD k 0) => show x ∈ l by rw [hh, List.getD_eq_getElem?_getD, List.getElem?_eq_getElem hlt]; exact List.getElem_mem hlt)
      have M2 := Lib.hid (fun (hh : x ≠ l.getD k 0) => show x ∉ l.take (k + 1) by
        rw [take_snoc l k 0 hlt, List.mem_append, List.mem_singleton]
        rintro (h' | h')
        · exact H.out h'
        · exact hh h')
      generalize l.getD k 0 = y at *
      have hiz : (k : Int) < (l.length : Int) := by omega
      by_cases he : x = y
      · have M3 := Lib.hid (M1.out he)
        have e1 : (x == y) = true := by simpa using he
        clear he M1 M2
        go_wp2
        go_ret
        exact ⟨_, rfl, ⟨fun _ => M3.out, fun _ => by omega⟩, rfl⟩
      · have M3 := Lib.hid (M2.out he)
        have e1 : (x == y) = false := by simpa using he
        clear he M1 M2
        go_wp2
        go_round
        case rel => exact ⟨k + 1, by go_num, by omega, M3⟩
        case measure => simp [intOf]; omega
    · obtain rfl : k = l.length := by omega
      have H2 := H.out
      rw [List.take_length] at H2
      have H3 := Lib.hid H2
      clear H H2
      go_wp2
      go_ret
      exact ⟨_, rfl, ⟨fun hh => absurd hh (by omega), fun hh => absurd hh H3.out⟩, rfl⟩
set_option maxHeartbeats 2000000 in
set_option maxRecDepth 100000 in
theorem contains_any {w : World} {A : Option Addr} {n c : Nat} {l : List Int} {x : Int} (h : Reads w w.heap.size 1 A n (ints .i64 l)) (hn : n ≤ 4611686018427387903) :
    Calls Try.prog 44 #[.slice A n c, .int .i64 x] w (ValPost (.bool (decide (x ∈ l))) w) := by
  have P := Lib.hid (index_any (c := c) (x := x) h hn)
  clear h
  go_enter Try.func44, Try.ntmps44
  go_wp2_with (first
    | (go_at_call 47; refine (P.out).mono ?_; rintro e w' ⟨r, rfl, hr, rfl⟩))
  go_ret
  exact ⟨rfl, rfl⟩
set_option maxHeartbeats 2000000 in
set_option maxRecDepth 100000 in
theorem places_any {w : World} {A : Option Addr} {n c : Nat} {l : List Int} {m : Nat} (h : Reads w w.heap.size 1 A n (ints .i64 l)) (hc : n ≤ c) (hn : n ≤ 4611686018427387903) :
    Calls Try.prog 32 #[.slice A n c, .int .i64 (m : Int)] w (ValPost (.bool (placesB l m)) w) := by
  obtain rfl := h.lenI
  have K1 := Lib.hid (fun (hh : ∀ k, k < l.length → 0 ≤ l.getD k 0 ∧ l.getD k 0 < (m : Int) ∧ l.getD k 0 ∉ l.take k) => places_of hh)
  have K2 := Lib.hid (fun (k : Nat) (hk : k < l.length) (hh : ¬ (0 ≤ l.getD k 0 ∧ l.getD k 0 < (m : Int) ∧ l.getD k 0 ∉ l.take k)) => show placesB l m = false from Bool.eq_false_iff.2 fun e => hh (places_at e hk))
  generalize placesB l m = O at *
  go_enter Try.func32, Try.ntmps32
  go_wp2
  go_loop [9] (fun i => ∃ k : Nat, i = .int .i64 (k : Int) ∧ k ≤ l.length ∧ Hid (∀ k', k' < k → 0 ≤ l.getD k' 0 ∧ l.getD k' 0 < (m : Int) ∧ l.getD k' 0 ∉ l.take k')) (fun i => l.length - (intOf i).toNat)
  case atStart => exact ⟨0, rfl, by omega, Lib.hid (by intro k' hk'; omega)⟩
  case round =>
    obtain ⟨k, rfl, hk, H⟩ := hrel
    by_cases hlt : k < l.length
    · have h' := h
      rw [← ints_recs] at h'
      obtain ⟨ad, rfl, hbk, c0⟩ := h'.int1 hlt
      clear h'
      have r2 := (h.take (k := k) (by omega))
      have e2 : (ints .i64 l).take (k * 1) = ints .i64 (l.take k) := by rw [← ints_recs, ← ints_recs]; exact recs_take (f := fun n : Int => [.int .i64 n]) (sz := 1) (fun _ => rfl) l k (by omega)
      rw [e2] at r2
      have P := Lib.hid (contains_any (c := c) (x := l.getD k 0) r2 (by omega))
      clear r2 e2
      have M1 := Lib.hid (K2.out k hlt)
      have M2 := Lib.hid (fun (hh : 0 ≤ l.getD k 0 ∧ l.getD k 0 < (m : Int) ∧ l.getD k 0 ∉ l.take k) => show ∀ k', k' < k + 1 → 0 ≤ l.getD k' 0 ∧ l.getD k' 0 < (m : Int) ∧ l.getD k' 0 ∉ l.take k' by
        intro k' hk'
        rcases Nat.lt_succ_iff_lt_or_eq.1 hk' with hk' | rfl
        · exact H.out k' hk'
        · exact hh)
      generalize hD : decide (l.getD k 0 ∈ l.take k) = D at *
      have HD := Lib.hid hD
      clear hD
      have M3 := Lib.hid (fun (h1 : 0 ≤ l.getD k 0) (h2 : l.getD k 0 < (m : Int)) (h3 : D = false) => M2.out ⟨h1, h2, of_decide_eq_false (HD.out.trans h3)⟩)
      have M4 := Lib.hid (fun (h3 : D = true) => M1.out (fun hh => hh.2.2 (of_decide_eq_true (HD.out.trans h3))))
      have M5 := Lib.hid (fun (h3 : l.getD k 0 < 0 ∨ (m : Int) ≤ l.getD k 0) => M1.out (fun hh => by omega))
      clear M1 M2 HD H
      generalize l.getD k 0 = y at *
      have hiz : (k : Int) < (l.length : Int) := by omega
      have hiz2 : (k : Int) ≤ (c : Int) := by omega
      by_cases h1 : y < 0
      · have O1 := Lib.hid (M5.out (.inl h1))
        clear M3 M4 M5
        go_wp2
        go_ret
        exact ⟨by rw [O1.out]; rfl, rfl⟩
      · by_cases h2 : (m : Int) ≤ y
        · have O1 := Lib.hid (M5.out (.inr h2))
          clear M3 M4 M5
          go_wp2
          go_ret
          exact ⟨by rw [O1.out]; rfl, rfl⟩
        · clear M5
          cases D with
          | true =>
            have O1 := Lib.hid (M4.out rfl)
            clear M3 M4
            go_wp2_with (first
              | (go_at_call 44; refine (P.out).mono ?_; rintro e w' ⟨rfl, rfl⟩))
            go_ret
            exact ⟨by rw [O1.out]; rfl, rfl⟩
          | false =>
            have O1 := Lib.hid (M3.out (by omega) (by omega) rfl)
            clear M3 M4
            go_wp2_with (first
              | (go_at_call 44; refine (P.out).mono ?_; rintro e w' ⟨rfl, rfl⟩))
            go_round
            case rel => exact ⟨k + 1, by go_num, by omega, O1⟩
            case measure => simp [intOf]; omega
    · obtain rfl : k = l.length := by omega
      have O1 := Lib.hid (K1.out H.out)
      clear H
      go_wp2
      go_ret
      exact ⟨by rw [O1.out]; rfl, rfl⟩

end Go.Proofs.Ytcnaameebbcmhaa
