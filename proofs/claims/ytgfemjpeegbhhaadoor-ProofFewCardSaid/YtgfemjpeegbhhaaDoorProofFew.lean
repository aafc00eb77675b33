/- ProofFew returns true whatever comes in, and leaves all that was there as it was. -/
import Derived.Test.YtgfemjpeegbhhaaDoorBun9

namespace Go.Hm
open Go Go.RowKit
/-- What is said of how many digests are needed. -/
theorem few_fit {n f t : Nat} (h1 : f < t) (h2 : t ≤ n) : cnt (evs f t 0 n) ≤ 2 * depthN n ∧ (cnt (evs f t 0 n) = 0 ↔ f = 0 ∧ t = n) ∧ (1 < t - f ∨ cnt (evs f t 0 n) ≤ depthN n) := by
  have a := cnt_few h1 0 n (Nat.zero_le n) (by omega)
  have b := cnt_zero h1 0 n (Nat.zero_le n)
  rw [Nat.sub_zero] at a
  refine ⟨a.1, ?_, ?_⟩
  · rw [b]; omega
  · by_cases h : 1 < t - f
    · exact .inl h
    · exact .inr (a.2 (by omega))
theorem few_none {n f : Nat} (h2 : f ≤ n) : cnt (evs f f 0 n) = if n = 0 then 0 else 1 := by
  by_cases h : n = 0
  · subst h
    rw [evs_among (.inl rfl), if_pos rfl]
    rfl
  · rw [evs_beside (by omega) (by omega), if_neg h]
    rfl

end Go.Hm

namespace Go.Proofs.YtgfemjpeegbhhaaDoor
open Go.RowKit Go.Hm
set_option maxHeartbeats 8000000 in
set_option maxRecDepth 100000 in
theorem proofFew_walk {w : World} (n f t : Int) (n0 : -9223372036854775808 ≤ n) (n1 : n ≤ 9223372036854775807) (hC : ConstIn w) :
    Calls Tryd.prog 12 #[.int .i64 n, .int .i64 f, .int .i64 t] w (SmallPost w) := by
  have SM := Lib.hid (small22_any w hC)
  have N := Lib.hid (fun W => need_any n f t W n0 n1)
  clear hC
  go_enter Tryd.func12, Tryd.ntmps12
  go_wp2_with fail
  refine SM.out.mono ?_
  rintro e w1 ⟨rfl, b1⟩
  have B1 := Lib.hid b1
  clear SM b1
  by_cases hbad : n < 0 ∨ 65536 < n ∨ f < 0 ∨ t < f ∨ n < t
  · by_cases hn : n < 0 ∨ 65536 < n
    · have hv : needI n f t = -1 := by unfold needI; rw [if_pos (by omega)]
      rw [hv] at N
      clear hbad hv
      by_cases a1 : n < 0
      · have a2 : ¬ 0 ≤ n := by omega
        go_wp2_with fail
        (with_reducible refine (N.out _).mono ?_)
        rintro e w2 ⟨rfl, b2⟩
        have B2 := Lib.hid (New.trans B1.out b2)
        clear b2
        go_wp2
        go_ret
        exact ⟨by simp, B2.out⟩
      · have a2 : 0 ≤ n := by omega
        have a3 : 65536 < n := by omega
        have a4 : ¬ n ≤ 65536 := by omega
        clear hn
        go_wp2_with fail
        (with_reducible refine (N.out _).mono ?_)
        rintro e w2 ⟨rfl, b2⟩
        have B2 := Lib.hid (New.trans B1.out b2)
        clear b2
        go_wp2
        go_ret
        exact ⟨by simp, B2.out⟩
    · have a1 : ¬ n < 0 := by omega
      have a2 : ¬ 65536 < n := by omega
      have a3 : 0 ≤ n := by omega
      have a4 : n ≤ 65536 := by omega
      have hb3 : f < 0 ∨ t < f ∨ n < t := by omega
      clear hn hbad N
      by_cases a5 : f < 0
      · clear hb3
        go_wp2
        go_ret
        exact ⟨by simp, B1.out⟩
      · by_cases a6 : t < f
        · clear hb3
          go_wp2
          go_ret
          exact ⟨by simp, B1.out⟩
        · have a7 : n < t := by omega
          clear hb3
          go_wp2
          go_ret
          exact ⟨by simp, B1.out⟩
  obtain ⟨n, rfl⟩ : ∃ m : Nat, n = (m : Int) := ⟨n.toNat, by omega⟩
  obtain ⟨f, rfl⟩ : ∃ m : Nat, f = (m : Int) := ⟨f.toNat, by omega⟩
  obtain ⟨t, rfl⟩ : ∃ m : Nat, t = (m : Int) := ⟨t.toNat, by omega⟩
  have h1 : f ≤ t := by omega
  have h2 : t ≤ n := by omega
  have h3 : n ≤ 65536 := by omega
  rw [needI_fit h1 h2 h3] at N
  have a1 : decide ((n : Int) < 0) = false := decide_eq_false (by omega)
  have a2 : decide ((65536 : Int) < (n : Int)) = false := by simp; omega
  have a3 : decide ((f : Int) < 0) = false := decide_eq_false (by omega)
  have a4 : decide (t < f) = false := by simp; omega
  have a5 : decide (n < t) = false := by simp; omega
  by_cases hft : f = t
  · subst hft
    have hc := few_none h2
    generalize cnt (evs f f 0 n) = y at *
    by_cases hn : n = 0
    · rw [if_pos hn] at hc
      subst hn
      subst hc
      rw [Int.natCast_zero] at N
      clear hbad n0 n1
      go_wp2_with fail
      (with_reducible refine (N.out _).mono ?_)
      rintro e w2 ⟨rfl, b2⟩
      have B2 := Lib.hid (New.trans B1.out b2)
      clear b2
      go_wp2
      go_ret
      exact ⟨by simp, B2.out⟩
    · rw [if_neg hn] at hc
      subst hc
      have a6 : ((n : Int) == 0) = false := beq_eq_false_iff_ne.2 (by omega)
      have a7 : (0 : Int) < (n : Int) := by omega
      clear hbad n0 n1
      go_wp2_with fail
      (with_reducible refine (N.out _).mono ?_)
      rintro e w2 ⟨rfl, b2⟩
      have B2 := Lib.hid (New.trans B1.out b2)
      clear b2
      go_wp2
      go_ret
      exact ⟨by simp, B2.out⟩
  obtain ⟨q1, q2, q3⟩ := few_fit (n := n) (f := f) (t := t) (by omega) h2
  have hc := cnt_le (f := f) (t := t) 0 n (Nat.zero_le n)
  have hd : depthN n ≤ 17 := by
    have := depthN_mono (m := n) (n := 65536) h3
    have e : depthN 65536 = 16 := depthN_pow 16
    omega
  have DP := depth_any (n + 1) (n : Int)
  generalize cnt (evs f t 0 n) = y at *
  rw [Int.toNat_natCast] at DP
  generalize depthN n = d at *
  have DP := Lib.hid (fun w => DP w (by omega) (by omega) (by omega))
  have a6 : ((f : Int) == (t : Int)) = false := beq_eq_false_iff_ne.2 (by omega)
  clear hbad n0 n1
  go_wp2_with fail
  (with_reducible refine (N.out _).mono ?_)
  rintro e w2 ⟨rfl, b2⟩
  have B2 := Lib.hid (New.trans B1.out b2)
  clear b2
  have b1 : (0 : Int) ≤ (y : Int) := by omega
  have b2 : (y : Int) ≤ 2 * (d : Int) := by omega
  have hh : (((y : Int) == 0) = true ∧ ((f : Int) == 0) = true ∧ ((t : Int) == (n : Int)) = true) ∨ (((y : Int) == 0) = false ∧ ((f : Int) == 0) = true ∧ ((t : Int) == (n : Int)) = false) ∨ (((y : Int) == 0) = false ∧ ((f : Int) == 0) = false ∧ True) := by
    simp only [beq_iff_eq, beq_eq_false_iff_ne, ne_eq, and_true]
    omega
  have hg : (decide ((1 : Int) < (t : Int) - (f : Int)) = true) ∨ (decide ((1 : Int) < (t : Int) - (f : Int)) = false ∧ decide (y ≤ d) = true) := by
    simp only [decide_eq_true_eq, decide_eq_false_iff_not]
    omega
  clear q1 q2 q3 hc hft
  rcases hh with ⟨e1, e2, e3⟩ | ⟨e1, e2, e3⟩ | ⟨e1, e2, -⟩ <;> rcases hg with g1 | ⟨g1, g2⟩
  all_goals (
    go_wp2_with fail
    (with_reducible refine (DP.out _).mono ?_)
    rintro e w3 ⟨rfl, rfl⟩
    go_wp2_with (first
      | ((with_reducible refine (DP.out _).mono ?_); rintro e w4 ⟨rfl, rfl⟩)
      | fail)
    go_ret
    exact ⟨by simp, B2.out⟩)

set_option maxRecDepth 100000 in
open Go.WideShapes Go.ChangeShapes in
theorem proofFew_contract {H : Type} {enc : TypeId × Value → H} (W : World) (base : Nat) (args : Array Value) (ds : List (DataW H)) (ps : List MemPlace)
    (hval : ∀ (j : Nat) t v, Tryd.f12.params[j]? = some t → args[j]? = some v → Value.okWide Tryd.prog W .any base t v)
    (hA : DataW.TrodAll enc Tryd.prog W 0 (fun _ => true) true Tryd.f12.params.toList args.toList ds ps) (hlt : ∀ p ∈ ps, p.block < W.heap.size)
    (hsz : (DataW.weightsEach Tryd.prog Tryd.f12.params.toList ds).all (· ≤ reachBytes) = true) (hL : laidMetH Tryd.prog laidC W) :
    Calls Tryd.prog 12 args W fun e W' => e = .returned (.bool true) ∧ Below W.heap.size W W' := by
  rw [Tryd.params12] at hA hval hsz
  obtain ⟨v0, v1, v2, d0, d1, d2, p0, p1, p2, rfl, rfl, rfl, h0, h1, h2⟩ := trodAll_three hA
  obtain ⟨n, rfl, wn, wn'⟩ := open_i64 (hval 0 _ _ rfl rfl) h0
  obtain ⟨f, rfl, wf, wf'⟩ := open_i64 (hval 1 _ _ rfl rfl) h1
  obtain ⟨t, rfl, wt, wt'⟩ := open_i64 (hval 2 _ _ rfl rfl) h2
  have _ := hlt
  have _ := wf
  have _ := wf'
  have _ := wt
  have _ := wt'
  exact proofFew_walk n f t wn wn' (const_of_laid hL)

end Go.Proofs.YtgfemjpeegbhhaaDoor
