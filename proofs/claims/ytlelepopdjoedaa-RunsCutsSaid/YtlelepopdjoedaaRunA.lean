/- Contracts on stretch of both kinds, and isRun. -/
import Derived.Test.YtlelepopdjoedaaRunE

namespace Go.Proofs.Ytlelepopdjoedaa
open Go.RowKit Go.Hm
set_option maxHeartbeats 1000000 in
theorem stretch_any {w : World} {A : Option Addr} {c : Nat} {L : List Nat} (h : Reads w w.heap.size 1 A L.length (nums .u64 L)) (hn : L.length ≤ 9223372036854775806) :
    Calls Try.prog 39 #[.slice A L.length c] w (NewPost (.int .i64 (st L : Nat)) w) := by
  go_enter Try.func39, Try.ntmps39
  go_wp2
  go_loopw [3] (fun i wr => ∃ k : Nat, k ≤ L.length ∧ i = .int .i64 (k : Int) ∧ Hid (∀ j, j < k → L.getD j 0 = L.getD 0 0) ∧ Below w.heap.size w wr) (fun i _ => L.length - (intOf i).toNat)
  case atStart => exact ⟨0, by omega, rfl, Lib.hid (fun j hj => by omega), Below.refl _ _⟩
  case round =>
    obtain ⟨k, hk, rfl, hT, hb⟩ := hrel
    by_cases hlt : k < L.length
    · obtain ⟨ad, rfl, hbk, hcell⟩ := (h.below hb).num hlt
      obtain ⟨ad', e', hbk', hcell'⟩ := (h.below hb).num (i := 0) (by omega)
      injection e' with e'
      subst e'
      rw [add_zero'] at hcell'
      have h0 : (0 : Int) < (L.length : Int) := by omega
      by_cases he : L.getD k 0 = L.getD 0 0
      · have HT := Lib.hid (show ∀ j, j < k + 1 → L.getD j 0 = L.getD 0 0 from fun j hj => by
          by_cases hjk : j = k
          · rw [hjk]; exact he
          · exact hT.out j (by omega))
        rw [he] at hcell
        clear he hT
        generalize L.getD 0 0 = y at *
        go_wp2
        go_quiet (fail)
        go_wp2
        go_roundw
        case rel => exact ⟨k + 1, by omega, by go_num, HT, below_drewN hb _⟩
        case measure => simp [intOf]; omega
      · have hst := Lib.hid (show st L = k from st_is (by omega) hT.out (.inr he))
        have hbe : (((L.getD k 0 : Nat) : Int) == ((L.getD 0 0 : Nat) : Int)) = false := by rw [beq_eq_false_iff_ne]; omega
        clear he hT
        generalize L.getD k 0 = y at *
        generalize L.getD 0 0 = z at *
        go_wp2
        go_quiet (fail)
        go_wp2
        go_ret
        exact ⟨by rw [hst.out]; simp, below_drewN hb _⟩
    · obtain rfl : k = L.length := by omega
      have hst := Lib.hid (show st L = L.length from st_is (by omega) hT.out (.inl rfl))
      clear hT
      go_wp2
      go_quiet (fail)
      go_wp2
      go_ret
      exact ⟨by rw [hst.out]; simp, below_drewN hb _⟩
set_option maxHeartbeats 1000000 in
theorem rstretch_any {w : World} {A : Option Addr} {c : Nat} {L : List Nat} (h : Reads w w.heap.size 1 A L.length (nums .u64 L)) (hn : L.length ≤ 9223372036854775806) :
    Calls Try.prog 22 #[.slice A L.length c] w (NewPost (.int .i64 (st L : Nat)) w) := by
  go_enter Try.func22, Try.ntmps22
  go_wp2
  go_loopw [3] (fun i wr => ∃ k : Nat, k ≤ L.length ∧ i = .int .i64 (k : Int) ∧ Hid (∀ j, j < k → L.getD j 0 = L.getD 0 0) ∧ Below w.heap.size w wr) (fun i _ => L.length - (intOf i).toNat)
  case atStart => exact ⟨0, by omega, rfl, Lib.hid (fun j hj => by omega), Below.refl _ _⟩
  case round =>
    obtain ⟨k, hk, rfl, hT, hb⟩ := hrel
    by_cases hlt : k < L.length
    · obtain ⟨ad, rfl, hbk, hcell⟩ := (h.below hb).num hlt
      obtain ⟨ad', e', hbk', hcell'⟩ := (h.below hb).num (i := 0) (by omega)
      injection e' with e'
      subst e'
      rw [add_zero'] at hcell'
      have h0 : (0 : Int) < (L.length : Int) := by omega
      by_cases he : L.getD k 0 = L.getD 0 0
      · have HT := Lib.hid (show ∀ j, j < k + 1 → L.getD j 0 = L.getD 0 0 from fun j hj => by
          by_cases hjk : j = k
          · rw [hjk]; exact he
          · exact hT.out j (by omega))
        rw [he] at hcell
        clear he hT
        generalize L.getD 0 0 = y at *
        go_wp2
        go_quiet (fail)
        go_wp2
        go_roundw
        case rel => exact ⟨k + 1, by omega, by go_num, HT, below_drewN hb _⟩
        case measure => simp [intOf]; omega
      · have hst := Lib.hid (show st L = k from st_is (by omega) hT.out (.inr he))
        have hbe : (((L.getD k 0 : Nat) : Int) == ((L.getD 0 0 : Nat) : Int)) = false := by rw [beq_eq_false_iff_ne]; omega
        clear he hT
        generalize L.getD k 0 = y at *
        generalize L.getD 0 0 = z at *
        go_wp2
        go_quiet (fail)
        go_wp2
        go_ret
        exact ⟨by rw [hst.out]; simp, below_drewN hb _⟩
    · obtain rfl : k = L.length := by omega
      have hst := Lib.hid (show st L = L.length from st_is (by omega) hT.out (.inl rfl))
      clear hT
      go_wp2
      go_quiet (fail)
      go_wp2
      go_ret
      exact ⟨by rw [hst.out]; simp, below_drewN hb _⟩
theorem isRun_any {w : World} {A : Option Addr} {c : Nat} {L : List Nat} (h : Reads w w.heap.size 1 A L.length (nums .u64 L)) (hn : L.length ≤ 9223372036854775806) :
    Calls Try.prog 19 #[.slice A L.length c] w (NewPost (.bool (decide (4 ≤ st L))) w) := by
  have S := Lib.hid (stretch_any (c := c) h hn)
  generalize st L = s at *
  clear h
  go_enter Try.func19, Try.ntmps19
  go_wp2_with fail
  refine S.out.mono ?_
  rintro e w1 ⟨rfl, b1⟩
  by_cases h4 : 4 ≤ s
  · have d : decide ((4 : Int) ≤ (s : Int)) = true := decide_eq_true (by omega)
    rw [decide_eq_true h4]
    go_wp2
    go_ret
    exact ⟨by simp [h4], b1⟩
  · have d : decide ((4 : Int) ≤ (s : Int)) = false := decide_eq_false (by omega)
    rw [decide_eq_false h4]
    go_wp2
    go_ret
    exact ⟨by simp; omega, b1⟩

end Go.Proofs.Ytlelepopdjoedaa
