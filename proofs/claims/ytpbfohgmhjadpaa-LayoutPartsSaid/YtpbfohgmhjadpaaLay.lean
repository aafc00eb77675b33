/- Contracts of package layout's Cut, and of its answer. -/
import Derived.Test.YtpbfohgmhjadpaaLayM
import Derived.Test.YtpbfohgmhjadpaaRow
import Derived.Test.YtpbfohgmhjadpaaOpt
import Derived.Test.YtpbfohgmhjadpaaOpen

namespace Go.Proofs.Ytpbfohgmhjadpaa
open Go.RowKit Go.Hm
theorem elP : ElT Try.prog 24 38 (.agg #[.int .i64 0, .int .i64 0]) 2 16 := ⟨by kernel_rfl, by kernel_rfl, rfl, by omega⟩
/-- Spans, a row of the call's own. -/
def SpansPost (l : List (Int × Int)) (w : World) (e : Ending) (w' : World) : Prop := ∃ A n c, e = .returned (.slice A n c) ∧ w'.ownsRow w.heap.size 38 2 (.slice A n c) n (pairs l) ∧ New w w'
theorem pairs_snoc (l : List (Int × Int)) (p : Int × Int) : pairs (l ++ [p]) = pairs l ++ [.int .i64 p.1, .int .i64 p.2] := by simp [pairs]

set_option maxHeartbeats 2000000 in
set_option maxRecDepth 100000 in
theorem cut_any (f t s : Int) (h1 : -9223372036854775808 ≤ f) (h2 : t ≤ 9223372036854775807) (h3 : s ≤ 9223372036854775807) (w : World) :
    Calls Try.prog 10 #[.int .i64 f, .int .i64 t, .int .i64 s] w (SpansPost (cutS f t s) w) := by
  by_cases hg : f < 0 ∨ t ≤ f ∨ 65536 < t ∨ s < 1
  · rw [cutS_none hg]
    by_cases g1 : f < 0
    all_goals try (have d1 : decide (f < 0) = false := by simpa using g1)
    all_goals try (by_cases g2 : t ≤ f)
    all_goals try (have d2 : decide (t ≤ f) = false := by simpa using g2)
    all_goals try (by_cases g3 : 65536 < t)
    all_goals try (have d3 : decide (65536 < t) = false := by simpa using g3)
    all_goals try (have g4 : s < 1 := by omega)
    all_goals
      clear hg
      go_enter Try.func10, Try.ntmps10
      go_wp2
      go_ret
      exact ⟨_, _, _, rfl, row_nil, New.refl _⟩
  · obtain ⟨f, rfl⟩ := Int.eq_ofNat_of_zero_le (show 0 ≤ f by omega)
    obtain ⟨t, rfl⟩ := Int.eq_ofNat_of_zero_le (show 0 ≤ t by omega)
    obtain ⟨s, rfl⟩ := Int.eq_ofNat_of_zero_le (show 0 ≤ s by omega)
    have k1 : f < t := by omega
    have k2 : t ≤ 65536 := by omega
    have k3 : 0 < s := by omega
    have k4 : s ≤ 9223372036854775807 := by omega
    rw [cutS_nat k1 k2 k3]
    have d1 : decide ((f : Int) < 0) = false := by simp
    have d2 : decide (t ≤ f) = false := by simp; omega
    have d3 : decide ((65536 : Int) < (t : Int)) = false := by simp; omega
    have d4 : decide ((s : Int) < 1) = false := by simp; omega
    have hN := spanN_le (f := f) (t := t) k3
    clear hg h1 h2 h3
    go_enter Try.func10, Try.ntmps10
    go_wp2
    go_loopw [7, 8] (fun v i wr => ∃ (k : Nat) (A : Option Addr) (c : Nat), k ≤ spanN f t s ∧ i = .int .i64 ((atN f t s k : Nat) : Int) ∧ v = .slice A k c ∧ wr.ownsRow w.heap.size 38 2 (.slice A k c) k (pairs ((spansN f t s).take k)) ∧ New w wr) (fun _ i _ => t - (intOf i).toNat)
    case atStart => exact ⟨0, none, 0, by omega, by congr 1; unfold atN; simp; omega, rfl, row_nil, New.refl _⟩
    case round =>
      obtain ⟨k, A, c, hk, rfl, rfl, o, b⟩ := hrel
      have L := spanN_lt (f := f) (t := t) k3 k
      by_cases hlt : k < spanN f t s
      · obtain ⟨e1, e2, e3⟩ := atN_next (L.1 hlt)
        have T := Lib.hid (spansN_take hlt)
        have E3 := Lib.hid e3
        have hp : atN f t s k < t := by have := L.1 hlt; omega
        clear L e1 e3
        have HE2 := Lib.hid e2
        clear e2
        generalize atN f t s k = p at *
        generalize hq : atN f t s (k + 1) = q at *
        have HQ := Lib.hid hq
        have e2 := HE2.out
        have z0 := b.size
        have hk6 : k ≤ 65536 := by omega
        by_cases hm : t - p < s
        all_goals
          first
          | (have m2 : (p : Int) + ((t - p : Nat) : Int) = (q : Int) := by have := HE2.out; omega)
          | (have m2 : (p : Int) + (s : Int) = (q : Int) := by have := HE2.out; omega)
          have mq : p < q ∧ q ≤ t := by have := HE2.out; omega
          have M2 := Lib.hid m2
          clear m2
          go_wp2_with (refine wpList_pushR elP rfl (.tmp 36) (.tmp 40) rfl (W := w) (B := w.heap.size) (base := w.heap.size) (n := k) o rfl rfl b (Nat.le_refl _) z0 rfl (by simp [Value.oneCell']) (by omega) (by simp only [maxLen]; omega) ?_
                       intro A' c' w' _ _ o' g' b' _ _)
          go_roundw
          case rel =>
            have e2 := HE2.out
            refine ⟨k + 1, A', c', by omega, by rw [HQ.out]; congr 1 <;> omega, rfl, ?_, b'⟩
            rw [T.out, pairs_snoc, E3.out]
            first
              | (rw [show (p : Int) + ((t : Int) - (p : Int)) = (q : Int) by omega] at o'; exact o')
              | (rw [show (p : Int) + (s : Int) = (q : Int) by omega] at o'; exact o')
          case measure => simp [intOf]; omega
      · have hk2 : k = spanN f t s := by omega
        have hp : atN f t s k = t := by
          have : ¬ f + k * s < t := fun hh => hlt (L.2 hh)
          unfold atN; omega
        rw [hp] at *
        have HK := Lib.hid hk2
        have HO := Lib.hid o
        clear hk2 L hp o
        go_wp2
        go_ret
        exact ⟨_, _, _, rfl, by have o := HO.out; rw [HK.out, List.take_of_length_le (by rw [spansN_len]; omega)] at o; rw [HK.out]; exact o, b⟩

set_option maxHeartbeats 2000000 in
set_option maxRecDepth 100000 in
theorem rcut_any (f t s : Int) (h1 : -9223372036854775808 ≤ f) (h2 : t ≤ 9223372036854775807) (h3 : s ≤ 9223372036854775807) (w : World) :
    Calls Try.prog 11 #[.int .i64 f, .int .i64 t, .int .i64 s] w (SpansPost (cutS f t s) w) := by
  by_cases hg : f < 0 ∨ t ≤ f ∨ 65536 < t ∨ s < 1
  · rw [cutS_none hg]
    by_cases g1 : f < 0
    all_goals try (have d1 : decide (f < 0) = false := by simpa using g1)
    all_goals try (by_cases g2 : t ≤ f)
    all_goals try (have d2 : decide (t ≤ f) = false := by simpa using g2)
    all_goals try (by_cases g3 : 65536 < t)
    all_goals try (have d3 : decide (65536 < t) = false := by simpa using g3)
    all_goals try (have g4 : s < 1 := by omega)
    all_goals
      clear hg
      go_enter Try.func11, Try.ntmps11
      go_wp2
      go_ret
      exact ⟨_, _, _, rfl, row_nil, New.refl _⟩
  · obtain ⟨f, rfl⟩ := Int.eq_ofNat_of_zero_le (show 0 ≤ f by omega)
    obtain ⟨t, rfl⟩ := Int.eq_ofNat_of_zero_le (show 0 ≤ t by omega)
    obtain ⟨s, rfl⟩ := Int.eq_ofNat_of_zero_le (show 0 ≤ s by omega)
    have k1 : f < t := by omega
    have k2 : t ≤ 65536 := by omega
    have k3 : 0 < s := by omega
    have k4 : s ≤ 9223372036854775807 := by omega
    rw [cutS_nat k1 k2 k3]
    have d1 : decide ((f : Int) < 0) = false := by simp
    have d2 : decide (t ≤ f) = false := by simp; omega
    have d3 : decide ((65536 : Int) < (t : Int)) = false := by simp; omega
    have d4 : decide ((s : Int) < 1) = false := by simp; omega
    have hN := spanN_le (f := f) (t := t) k3
    clear hg h1 h2 h3
    go_enter Try.func11, Try.ntmps11
    go_wp2
    go_loopw [7, 0] (fun v i wr => ∃ (k : Nat) (A : Option Addr) (c : Nat), k ≤ spanN f t s ∧ i = .int .i64 ((atN f t s k : Nat) : Int) ∧ v = .slice A k c ∧ wr.ownsRow w.heap.size 38 2 (.slice A k c) k (pairs ((spansN f t s).take k)) ∧ New w wr) (fun _ i _ => t - (intOf i).toNat)
    case atStart => exact ⟨0, none, 0, by omega, by congr 1; unfold atN; simp; omega, rfl, row_nil, New.refl _⟩
    case round =>
      obtain ⟨k, A, c, hk, rfl, rfl, o, b⟩ := hrel
      have L := spanN_lt (f := f) (t := t) k3 k
      by_cases hlt : k < spanN f t s
      · obtain ⟨e1, e2, e3⟩ := atN_next (L.1 hlt)
        have T := Lib.hid (spansN_take hlt)
        have E3 := Lib.hid e3
        have hp : atN f t s k < t := by have := L.1 hlt; omega
        clear L e1 e3
        have HE2 := Lib.hid e2
        clear e2
        generalize atN f t s k = p at *
        generalize hq : atN f t s (k + 1) = q at *
        have HQ := Lib.hid hq
        have e2 := HE2.out
        have z0 := b.size
        have hk6 : k ≤ 65536 := by omega
        have m1 : IntKind.i64.wrap ((t : Int) - (p : Int)) = ((t - p : Nat) : Int) := by rw [IntWalk.i64_in _ (by omega)]; omega
        by_cases hm : s < t - p
        all_goals
          try (have M1 : decide (s < t - p) = true := decide_eq_true hm)
          try (have M1 : decide (s < t - p) = false := decide_eq_false hm)
          have mq : p < q ∧ q ≤ t := by have := HE2.out; omega
          clear e2 hq
          go_wp2_with (refine wpList_pushR elP rfl (.tmp 36) (.tmp 40) rfl (W := w) (B := w.heap.size) (base := w.heap.size) (n := k) o rfl rfl b (Nat.le_refl _) z0 rfl (by simp [Value.oneCell']) (by omega) (by simp only [maxLen]; omega) ?_
                       intro A' c' w' _ _ o' g' b' _ _)
          go_roundw
          case rel =>
            have e2 := HE2.out
            refine ⟨k + 1, A', c', by omega, by rw [HQ.out]; congr 1 <;> omega, rfl, ?_, b'⟩
            rw [T.out, pairs_snoc, E3.out]
            first
              | (rw [show (p : Int) + (s : Int) = (q : Int) by omega] at o'; exact o')
              | (rw [show (t : Int) = (q : Int) by omega] at o'; exact o')
          case measure => simp [intOf]; omega
      · have hk2 : k = spanN f t s := by omega
        have hp : atN f t s k = t := by
          have : ¬ f + k * s < t := fun hh => hlt (L.2 hh)
          unfold atN; omega
        rw [hp] at *
        have HK := Lib.hid hk2
        have HO := Lib.hid o
        clear hk2 L hp o
        go_wp2
        go_ret
        exact ⟨_, _, _, rfl, by have o := HO.out; rw [HK.out, List.take_of_length_le (by rw [spansN_len]; omega)] at o; rw [HK.out]; exact o, b⟩

end Go.Proofs.Ytpbfohgmhjadpaa
