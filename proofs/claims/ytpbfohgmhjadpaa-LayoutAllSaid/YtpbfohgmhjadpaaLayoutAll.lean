/- LayoutAll returns true whatever comes in, and leaves all that was there as it was. -/
import Derived.Test.YtpbfohgmhjadpaaLaw18

namespace Go.Proofs.Ytpbfohgmhjadpaa
open Go.RowKit Go.Hm

set_option maxHeartbeats 2000000 in
set_option maxRecDepth 100000 in
theorem layoutAll_walk {w : World} {f t s : Int} (h1 : -9223372036854775808 ≤ f) (h2 : t ≤ 9223372036854775807) (h3 : s ≤ 9223372036854775807) :
    Calls Try.prog 6 #[.int .i64 f, .int .i64 t, .int .i64 s] w (SmallPost w) := by
  have HF := Lib.hid (fun W => few18_any f t s W)
  have HC := Lib.hid (fun W => cut_any f t s h1 h2 h3 W)
  have hc : f < 0 ∨ (¬ f < 0 ∧ 65536 < t) ∨ (¬ f < 0 ∧ ¬ 65536 < t ∧ s < 1) ∨ (¬ f < 0 ∧ ¬ 65536 < t ∧ ¬ s < 1 ∧ t ≤ f) ∨ (¬ f < 0 ∧ ¬ 65536 < t ∧ ¬ s < 1 ∧ ¬ t ≤ f) := by omega
  rcases hc with k1 | ⟨k1, k2⟩ | ⟨k1, k2, k3⟩ | ⟨k1, k2, k3, k4⟩ | ⟨k1, k2, k3, k4⟩
  case inr.inr.inr.inr =>
    obtain ⟨f, rfl⟩ := Int.eq_ofNat_of_zero_le (show 0 ≤ f by omega)
    obtain ⟨t, rfl⟩ := Int.eq_ofNat_of_zero_le (show 0 ≤ t by omega)
    obtain ⟨s, rfl⟩ := Int.eq_ofNat_of_zero_le (show 0 ≤ s by omega)
    have j1 : f < t := by omega
    have j2 : t ≤ 65536 := by omega
    have j3 : 0 < s := by omega
    have j4 : s ≤ 9223372036854775807 := by omega
    have d1 : decide ((f : Int) < 0) = false := by simp
    have d2 : decide ((65536 : Int) < (t : Int)) = false := by simp; omega
    have d3 : decide ((s : Int) < 1) = false := by simp; omega
    have d4 : decide (t ≤ f) = false := by simp; omega
    rw [cutS_nat j1 j2 j3] at HC
    have hN := spanN_le (f := f) (t := t) j3
    clear k1 k2 k3 k4 h1 h2 h3
    go_enter Try.func6, Try.ntmps6
    go_wp2_with fail
    refine (small18_any w).mono ?_
    rintro e w1 ⟨rfl, b1⟩
    go_wp2_with fail
    refine (HF.out w1).mono ?_
    rintro e w2 ⟨bb, rfl, rfl⟩
    cases bb
    · go_wp2
      go_ret
      exact ⟨rfl, b1⟩
    · go_wp2_with fail
      refine (HC.out w1).mono ?_
      rintro e w2 ⟨A2, n2, c2, rfl, k2, b2⟩
      have r2 := Reads.of_own k2
      have q2 := r2.lenP
      rw [spansN_len] at q2
      have HQ2 := Lib.hid q2
      have hn2 : n2 ≤ 65536 := by omega
      clear q2
      have b02 := New.trans b1 b2
      clear k2 b2 b1 HC HF
      go_wp2
      go_loopw [10, 11] (fun v i wr => ∃ k : Nat, i = .int .i64 (k : Int) ∧ v = .int .i64 ((atN f t s k : Nat) : Int) ∧ k ≤ n2 ∧ w2 = wr) (fun _ i _ => n2 - (intOf i).toNat)
      case atStart => exact ⟨0, rfl, by congr 1; unfold atN; simp; omega, by omega, rfl⟩
      case round =>
        obtain ⟨k, rfl, rfl, hk, rfl⟩ := hrel
        have L := spanN_lt (f := f) (t := t) j3
        by_cases hlt : k < n2
        · have q2 := HQ2.out
          obtain ⟨ad, rfl, hb, c1, c3⟩ := r2.pair2 hlt
          obtain ⟨e1, e2, e3⟩ := atN_next ((L k).1 (by omega))
          rw [spansN_at (by omega), e3] at c1 c3
          simp only at c1 c3
          have hp : atN f t s k < t := by have := (L k).1 (by omega); omega
          have hiz : (k : Int) < (n2 : Int) := by omega
          have hlast : k + 1 < n2 → atN f t s (k + 1) = atN f t s k + s := fun hh => by
            have a := (L (k + 1)).1 (by omega)
            have b := atN_next a
            rw [e1, b.1, Nat.succ_mul]; omega
          clear L e1 e3
          generalize atN f t s k = p at *
          generalize hq : atN f t s (k + 1) = q at *
          have HQ := Lib.hid hq
          have x1 : IntKind.i64.wrap ((q : Int) - (p : Int)) = ((q - p : Nat) : Int) := by rw [IntWalk.i64_in _ (by omega)]; omega
          have t1 : decide (q ≤ p) = false := by simp; omega
          have t2 : decide (s < q - p) = false := by simp; omega
          have t5 : ((p : Int) != (p : Int)) = false := by simp
          by_cases hk1 : k + 1 < n2
          all_goals
            try (have t4 : (((q - p : Nat) : Int) != (s : Int)) = false := by have := hlast hk1; simp; omega)
            clear hlast e2 hq q2
            go_wp2
            go_roundw
            case rel => exact ⟨k + 1, by go_num, by rw [HQ.out], by omega, trivial⟩
            case measure => simp [intOf]; omega
        · have hp : atN f t s k = t := by
            have q2 := HQ2.out
            have : ¬ f + k * s < t := fun hh => hlt (by have := (L k).2 hh; omega)
            unfold atN; omega
          rw [hp]
          clear L hp
          go_wp2
          go_ret
          exact ⟨by simp, b02⟩
  all_goals
    try (have d1 : decide (f < 0) = false := decide_eq_false k1)
    try (have d2 : decide (65536 < t) = false := decide_eq_false k2)
    try (have d3 : decide (s < 1) = false := decide_eq_false k3)
    rw [cutS_none (by omega)] at HC
    clear h1 h2 h3
    go_enter Try.func6, Try.ntmps6
    go_wp2_with fail
    refine (small18_any w).mono ?_
    rintro e w1 ⟨rfl, b1⟩
    go_wp2_with fail
    refine (HF.out w1).mono ?_
    rintro e w2 ⟨bb, rfl, rfl⟩
    cases bb
    · go_wp2
      go_ret
      exact ⟨rfl, b1⟩
    · go_wp2_with fail
      refine (HC.out w1).mono ?_
      rintro e w2 ⟨A2, n2, c2, rfl, k9, b2⟩
      obtain rfl : n2 = 0 := (Reads.of_own k9).lenP
      have b02 := New.trans b1 b2
      clear k9 b2 b1 HC HF
      go_wp2
      go_ret
      exact ⟨by simp, b02⟩

set_option maxRecDepth 100000 in
open Go.WideShapes Go.ChangeShapes in
theorem layoutAll_contract {H : Type} {enc : TypeId × Value → H} (W : World) (base : Nat) (args : Array Value) (ds : List (DataW H)) (ps : List MemPlace)
    (hval : ∀ (j : Nat) t v, Try.f6.params[j]? = some t → args[j]? = some v → Value.okWide Try.prog W .any base t v)
    (hA : DataW.TrodAll enc Try.prog W 0 (fun _ => true) true Try.f6.params.toList args.toList ds ps) (hlt : ∀ p ∈ ps, p.block < W.heap.size)
    (hsz : (DataW.weightsEach Try.prog Try.f6.params.toList ds).all (· ≤ reachBytes) = true) :
    Calls Try.prog 6 args W fun e W' => e = .returned (.bool true) ∧ Below W.heap.size W W' := by
  rw [Try.params6] at hA hval hsz
  obtain ⟨v0, v1, v2, d0, d1, d2, p0, p1, p2, rfl, rfl, rfl, h0, h1, h2⟩ := trodAll_three hA
  obtain ⟨a, rfl, wa, wa'⟩ := open_i64 (hval 0 _ _ rfl rfl) h0
  obtain ⟨b, rfl, wb, wb'⟩ := open_i64 (hval 1 _ _ rfl rfl) h1
  obtain ⟨c, rfl, wc, wc'⟩ := open_i64 (hval 2 _ _ rfl rfl) h2
  exact layoutAll_walk wa wb' wc'

end Go.Proofs.Ytpbfohgmhjadpaa
