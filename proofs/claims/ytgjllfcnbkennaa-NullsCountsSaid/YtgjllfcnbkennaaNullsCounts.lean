/- NullsCounts returns true whatever comes in, and leaves all that was there as it was. -/
import Derived.Test.YtgjllfcnbkennaaLaw08
import Derived.Test.YtgjllfcnbkennaaTrod

namespace Go.Proofs.Ytgjllfcnbkennaa
open Go.RowKit Go.Hm
theorem join_zeros : ∀ (m : List Nat) (k : Nat), (∀ y ∈ m, y < 2 ^ 1) → m.sum = k → ∃ x, joinL m (List.replicate k (false, 0, [], 0, 0)) = some x ∧ x.length = m.length
  | [], k, _, _ => ⟨[], by rfl, rfl⟩
  | y :: m, k, hm, hs => by
    have hy := hm y (by simp)
    have hm' : ∀ z ∈ m, z < 2 ^ 1 := fun z hz => hm z (by simp [hz])
    rw [joinL_cons]
    by_cases h0 : y = 0
    · subst h0
      obtain ⟨x, e, hl⟩ := join_zeros m k hm' (by simpa using hs)
      exact ⟨nullC :: x, by rw [if_pos rfl, e]; rfl, by simp [hl]⟩
    · obtain rfl : y = 1 := by omega
      obtain ⟨k', rfl⟩ : ∃ k', k = k' + 1 := ⟨k - 1, by simp at hs; omega⟩
      obtain ⟨x, e, hl⟩ := join_zeros m k' hm' (by simp at hs; omega)
      refine ⟨(false, 0, [], 0, 0) :: x, ?_, by simp [hl]⟩
      rw [if_neg (by omega), List.replicate_succ]
      simp only [Bool.false_eq_true, if_false]
      rw [e]
      rfl
theorem joinO_zeros {U : Option (List Nat)} {k : Nat} {m : List Nat} (hU : U = some m) (hm : ∀ y ∈ m, y < 2 ^ 1) : (m.sum = k → ∃ x, joinO U (List.replicate k (false, 0, [], 0, 0)) = some x ∧ x.length = m.length) ∧ (¬ m.sum = k → joinO U (List.replicate k (false, 0, [], 0, 0)) = none) := by
  subst hU
  constructor
  · intro hs
    rw [joinO_eq (by simp [hs])]
    exact join_zeros m k hm hs
  · intro hs
    exact joinO_no (by simp [cntN]; omega)
theorem zeros_in {w : World} {base : Nat} {A : Option Addr} {k c : Nat} (u : w.ownsRow base 34 5 (.slice A k c) k (List.replicate k [.bool false, .int .i64 0, .string ⟨#[]⟩, .int .i64 0, .int .i64 0]).flatten) : Reads w w.heap.size 5 A k (recs cellV (List.replicate k (false, 0, [], 0, 0))) := by
  have := Reads.of_own u
  simpa [recs, List.flatMap_replicate, cellV, bstr] using this
set_option maxHeartbeats 2000000 in
set_option maxRecDepth 100000 in
theorem nullsCounts_walk {w : World} {A : Option Addr} {mm c : Nat} {b : List Nat} {n p : Int} (h : Reads w w.heap.size 1 A mm (nums .u8 b)) (h8 : ∀ x ∈ b, x < 256) (hm : mm ≤ 9223372036854775807) (hn0 : -9223372036854775808 ≤ n) (hn : n ≤ 9223372036854775807) (hp0 : -9223372036854775808 ≤ p) (hp : p ≤ 9223372036854775807) :
    Calls Try.prog 6 #[.slice A mm c, .int .i64 n, .int .i64 p] w (SmallPost w) := by
  have PC := fun (W : World) (hW : New w W) => count_any (w := W) (c := c) (Reads.later h hW) h8 hm hn0 hn
  have PJ := fun (W : World) (hW : New w W) (A2 : Option Addr) (nr c2 : Nat) (r : List CellS) (hr : Reads W W.heap.size 5 A2 nr (recs cellV r)) (hl : nr ≤ 9223372036854775807) => join_any (w := W) (c := c) (c2 := c2) (Reads.later h hW) h8 hm hn0 hn hr hl
  have HU := fun (m : List Nat) (hh : unpackO b 1 n = some m) => unpack1 h8 hh
  generalize hU : unpackO b 1 n = U at *
  clear hU h
  have PC := Lib.hid PC
  have PJ := Lib.hid PJ
  go_enter Try.func6, Try.ntmps6
  go_wp2_with fail
  refine (small08_any w).mono ?_
  rintro e w1 ⟨rfl, b1⟩
  by_cases h1 : 100 < mm
  · have t1 : decide (100 < (mm : Int)) = true := by simp; omega
    go_wp2
    go_ret
    exact ⟨rfl, b1⟩
  have t1 : decide (100 < (mm : Int)) = false := by simp; omega
  by_cases h2 : 900 < n
  · have t2 : decide (900 < n) = true := by simpa using h2
    go_wp2
    go_ret
    exact ⟨rfl, b1⟩
  have t2 : decide (900 < n) = false := by simpa using h2
  by_cases h3 : p < -1
  · have t3 : decide (p < -1) = true := by simpa using h3
    go_wp2
    go_ret
    exact ⟨rfl, b1⟩
  have t3 : decide (p < -1) = false := by simpa using h3
  by_cases h4 : 1 < p
  · have t4 : decide (1 < p) = true := by simpa using h4
    go_wp2
    go_ret
    exact ⟨rfl, b1⟩
  have t4 : decide (1 < p) = false := by simpa using h4
  cases U with
  | none =>
    have P1 := Lib.hid (PC.out w1 b1)
    clear PC
    go_wp2_with fail
    refine P1.out.mono ?_
    rintro e w2 ⟨rfl, b2⟩
    have b02 := New.trans b1 b2
    have P2 := Lib.hid (PJ.out w2 b02 none 0 0 [] Reads.none_ (by omega))
    have e1 : cntN none = -1 := rfl
    rw [e1]
    clear P1 PJ e1
    go_wp2_with fail
    refine P2.out.mono ?_
    rintro e w3 ⟨rfl, b3⟩
    go_wp2
    go_ret
    exact ⟨by simp, New.trans b02 b3⟩
  | some m =>
    obtain ⟨_, q2, q3, q4⟩ := HU m rfl
    subst q2
    have hs := sum_le_len q3
    have e1 : cntN (some m) = (m.sum : Int) := rfl
    rw [e1] at PC
    have HZ := Lib.hid (fun k => joinO_zeros (U := some m) (k := k) rfl q3)
    have P1 := Lib.hid (PC.out w1 b1)
    clear PC HU e1 q3
    generalize m.sum = s at *
    generalize m.length = M at *
    have t6 : decide ((M : Int) < (s : Int)) = false := by simp; omega
    have hw : IntKind.i64.wrap ((s : Int) + p) = (s : Int) + p := by rw [IntKind.wrap_i64]; omega
    have t7 : decide ((s : Int) ≤ (M : Int)) = true := by simp; omega
    by_cases h5 : (s : Int) + p < 0
    · go_wp2_with fail
      refine P1.out.mono ?_
      rintro e w2 ⟨rfl, b2⟩
      go_wp2
      go_ret
      exact ⟨by simp, New.trans b1 b2⟩
    · obtain ⟨k, hk⟩ := Int.eq_ofNat_of_zero_le (show 0 ≤ (s : Int) + p by omega)
      rw [hk] at h5
      replace hw : IntKind.i64.wrap ((s : Int) + p) = (k : Int) := by rw [hw, hk]
      have t5 : decide ((k : Int) < 0) = false := by simp
      have hkl : k ≤ 100000 := by omega
      have HK := Lib.hid hk
      have HP := Lib.hid (And.intro (show p = 0 → s = k by intro; omega) (show ¬ p = 0 → ¬ s = k by intro; omega))
      clear hk h5
      go_wp2_with fail
      refine P1.out.mono ?_
      rintro e w2 ⟨rfl, b2⟩
      have b02 := New.trans b1 b2
      clear P1
      go_wp2_with (refine wpList_mk5 elCell rfl (.tmp 69) (.tmp 69) rfl rfl (W := w2) (B := w2.heap.size) k rfl rfl rfl rfl (Below.refl _ _) (Nat.le_refl _) (by omega) (by simp only [maxLen]; omega) ?_
                   intro w3 u3 _ b3 s3)
      have b03 := New.trans b02 b3
      have P2 := Lib.hid (PJ.out w3 b03 (some ⟨w2.heap.size, 0, none⟩) k k (List.replicate k (false, 0, [], 0, 0)) (zeros_in u3) (by omega))
      refine P2.out.mono ?_
      clear P2 PJ u3
      by_cases h0 : p = 0
      · obtain ⟨x, ex, hx⟩ := (HZ.out k).1 (HP.out.1 h0)
        rw [ex]
        rintro e w4 ⟨A4, c4, rfl, _, b4⟩
        rw [hx]
        subst h0
        clear ex hx HZ HK HP hw t5 t6 t7
        go_wp2
        go_ret
        exact ⟨by simp, New.trans b03 b4⟩
      · rw [(HZ.out k).2 (HP.out.2 h0)]
        rintro e w4 ⟨rfl, b4⟩
        have e0 : (p == 0) = false := by simpa using h0
        clear HZ HK HP hw t5 t6 t7
        go_wp2
        go_ret
        exact ⟨by simp, New.trans b03 b4⟩

set_option maxRecDepth 100000 in
open Go.WideShapes Go.ChangeShapes in
theorem nullsCounts_contract {H : Type} {enc : TypeId × Value → H} (W : World) (base : Nat) (args : Array Value) (ds : List (DataW H)) (ps : List MemPlace)
    (hval : ∀ (j : Nat) t v, Try.f6.params[j]? = some t → args[j]? = some v → Value.okWide Try.prog W .any base t v)
    (hA : DataW.TrodAll enc Try.prog W 0 (fun _ => true) true Try.f6.params.toList args.toList ds ps) (hlt : ∀ p ∈ ps, p.block < W.heap.size)
    (hsz : (DataW.weightsEach Try.prog Try.f6.params.toList ds).all (· ≤ reachBytes) = true) :
    Calls Try.prog 6 args W fun e W' => e = .returned (.bool true) ∧ Below W.heap.size W W' := by
  rw [Try.params6] at hA hval hsz
  obtain ⟨v0, v1, v2, d0, d1, d2, p0, p1, p2, rfl, rfl, rfl, h0, h1, h2⟩ := trodAll_three hA
  obtain ⟨A_b, c_b, b, rfl, hc_b, hm_b, hr_b, hl_b⟩ := open_B (hval 0 _ _ rfl rfl) h0 (fun p hp => hlt p (by simp [hp])) (sized_at hsz (j := 0) rfl rfl)
  obtain ⟨n, rfl, wn, wn'⟩ := open_i64 (hval 1 _ _ rfl rfl) h1
  obtain ⟨p, rfl, wp, wp'⟩ := open_i64 (hval 2 _ _ rfl rfl) h2
  exact nullsCounts_walk hr_b hl_b (by omega) (by omega) (by omega) (by omega) (by omega)

end Go.Proofs.Ytgjllfcnbkennaa
