/- VarintOrder returns true whatever comes in, and leaves all that was there as it was. -/
import Derived.Test.YtghfdbnbgkpnaaaSmallV
import Derived.Test.YtghfdbnbgkpnaaaOpen
namespace Go.Hm
theorem vp_fits : ∀ (k n : Nat), (vp n).length ≤ k + 1 ↔ n < 128 ^ (k + 1) := by
  intro k
  induction k with
  | zero =>
    intro n
    by_cases hn : n < 128
    · rw [vp_lt hn]; simp [hn]
    · rw [vp_ge hn]
      have := vp_pos (n / 128)
      simp only [List.length_cons, Nat.zero_add, Nat.pow_one]
      omega
  | succ k ih =>
    intro n
    by_cases hn : n < 128
    · have hp : (128 : Nat) ^ 1 ≤ 128 ^ (k + 1 + 1) := Nat.pow_le_pow_right (by omega) (by omega)
      rw [vp_lt hn]; simp; omega
    · have hp : (128 : Nat) ^ (k + 1 + 1) = 128 ^ (k + 1) * 128 := Nat.pow_succ ..
      have := ih (n / 128)
      rw [vp_ge hn, List.length_cons]
      omega
theorem vp_mono {n m : Nat} (h : n ≤ m) : (vp n).length ≤ (vp m).length := by
  have hm := vp_pos m
  have h1 := vp_fits ((vp m).length - 1) m
  have h2 := vp_fits ((vp m).length - 1) n
  rw [show (vp m).length - 1 + 1 = (vp m).length by omega] at h1 h2
  exact h2.2 (Nat.lt_of_le_of_lt h (h1.1 (Nat.le_refl _)))
theorem vp_top (n : Nat) : n < 2 ^ (7 * (vp n).length) := by
  have hm := vp_pos n
  have h1 := vp_fits ((vp n).length - 1) n
  rw [show (vp n).length - 1 + 1 = (vp n).length by omega] at h1
  have := h1.1 (Nat.le_refl _)
  rwa [show (128 : Nat) = 2 ^ 7 from rfl, ← Nat.pow_mul] at this
theorem vp_bot (n : Nat) (h : (vp n).length ≠ 1) : 2 ^ (7 * ((vp n).length - 1)) ≤ n := by
  have hm := vp_pos n
  have h1 := vp_fits ((vp n).length - 2) n
  rw [show (vp n).length - 2 + 1 = (vp n).length - 1 by omega] at h1
  refine Nat.le_of_not_lt fun hlt => ?_
  rw [Nat.pow_mul] at hlt
  have := h1.2 hlt
  omega
end Go.Hm
namespace Go.Proofs.Ytghfdbnbgkpnaaa
open Go.RowKit Go.Hm

set_option maxHeartbeats 400000 in
theorem varintOrder_walk {w : World} {n m : Nat} (hn : n < 18446744073709551616) (hm : m < 18446744073709551616) :
    Calls Try.prog 14 #[.int .u64 (n : Int), .int .u64 (m : Int)] w (SmallPost w) := by
  have h10 := vp_len10 hn
  have h11 := vp_len10 hm
  have hp := vp_pos n
  have ht := vp_top n
  have hb := vp_bot n
  have hmono := fun h => vp_mono (n := n) (m := m) h
  have hw : ∀ k, k ≤ 9 → IntKind.u64.wrap (2 ^ (7 * k)) = ((2 ^ (7 * k) : Nat) : Int) := by
    intro k hk
    have h1 : (2 : Nat) ^ (7 * k) ≤ 2 ^ 63 := Nat.pow_le_pow_right (by omega) (by omega)
    rw [IntKind.wrap_u64, show ((2 : Int) ^ (7 * k)) = ((2 ^ (7 * k) : Nat) : Int) from by simp]
    generalize (2 : Nat) ^ (7 * k) = z at *
    omega
  have H1 : (vp n).length ≠ 10 → (n : Int) < IntKind.u64.wrap (2 ^ (7 * (vp n).length)) := fun h => by rw [hw _ (by omega)]; omega
  have H2 : (vp n).length ≠ 1 → IntKind.u64.wrap (2 ^ (7 * ((vp n).length - 1))) ≤ n := fun h => by rw [hw _ (by omega)]; have := hb h; omega
  have H3 : (vp n).length = 10 → (9223372036854775808 : Int) ≤ n := fun h => by have := hb (by omega); rw [h] at this; simp at this; omega
  clear hw ht hb
  generalize hP : (vp n).length = p at *
  generalize hQ : (vp m).length = q at *
  go_enter Try.func14, Try.ntmps14
  go_wp2_with (first
    | (go_at_call 37; refine (small04_any w).mono ?_; rintro e w1 ⟨rfl, b1⟩
       have Z1 := Lib.hid (size_any n w1 hn)
       have Z2 := Lib.hid (size_any m w1 hm))
    | (go_at_call 40; (with_reducible refine Z1.out.mono ?_); rintro e w2 ⟨rfl, rfl⟩
       rw [hP])
    | (go_at_call 40; (with_reducible refine Z2.out.mono ?_); rintro e w2 ⟨rfl, rfl⟩
       rw [hQ]))
  all_goals go_ret
  all_goals refine ⟨congrArg (fun b => Ending.returned (.bool b)) ?_, b1⟩
  all_goals first
    | rfl
    | (simp only [decide_eq_true_eq, Bool.or_eq_true, beq_iff_eq]; omega)
    | (exfalso; omega)

open Go.WideShapes Go.ChangeShapes in
theorem varintOrder_contract {H : Type} {enc : TypeId × Value → H} (W : World) (base : Nat) (args : Array Value) (ds : List (DataW H)) (ps : List MemPlace)
    (hval : ∀ (j : Nat) t v, Try.f14.params[j]? = some t → args[j]? = some v → Value.okWide Try.prog W .any base t v)
    (hA : DataW.TrodAll enc Try.prog W 0 (fun _ => true) true Try.f14.params.toList args.toList ds ps) (hlt : ∀ p ∈ ps, p.block < W.heap.size)
    (hsz : (DataW.weightsEach Try.prog Try.f14.params.toList ds).all (· ≤ reachBytes) = true) :
    Calls Try.prog 14 args W fun e W' => e = .returned (.bool true) ∧ Below W.heap.size W W' := by
  rw [Try.params14] at hA hval hsz
  obtain ⟨v0, v1, d0, d1, p0, p1, rfl, rfl, rfl, h0, h1⟩ := trodAll_two hA
  obtain ⟨x, rfl, wx⟩ := open_u64 (hval 0 _ _ rfl rfl) h0
  obtain ⟨u, rfl, wu⟩ := open_u64 (hval 1 _ _ rfl rfl) h1
  exact varintOrder_walk (by omega) (by omega)
end Go.Proofs.Ytghfdbnbgkpnaaa
