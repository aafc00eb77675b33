/- BitpackOnce returns true whatever comes in, and leaves all that was there as it was. -/
import Derived.Test.YtghfdbnbgkpnaaaLaw05
namespace Go.Proofs.Ytghfdbnbgkpnaaa
open Go.RowKit Go.Hm

set_option maxHeartbeats 1000000 in
theorem bitpackOnce_walk {w : World} {A : Option Addr} {n c : Nat} {b : List Nat} {x m : Int} (h : Reads w w.heap.size 1 A n (nums .u8 b)) (h8 : ∀ x ∈ b, x < 256)
    (hx : -9223372036854775808 ≤ x) (hx1 : x ≤ 9223372036854775807) (hm : -9223372036854775808 ≤ m) (hm1 : m ≤ 3000) (hn : n ≤ 300) :
    Calls Try.prog 18 #[.slice A n c, .int .i64 x, .int .i64 m] w (SmallPost w) := by
  have h3 : decide (3000 < m) = false := by simpa using hm1
  cases hU : unpackO b x m with
  | none =>
    have HU := Lib.hid hU
    clear hU
    go_enter Try.func18, Try.ntmps18
    go_wp2_with (first
      | (go_at_call 50; refine (small05_any w).mono ?_; rintro e w1 ⟨rfl, b1⟩
         have P1 := Lib.hid (unpack_any (c := c) x m (Reads.later h b1) h8 (by omega) hx hx1 hm (by omega))
         rw [HU.out] at P1)
      | (go_at_call 57; refine P1.out.mono ?_; rintro e w2 ⟨rfl, b2⟩))
    go_ret
    exact ⟨rfl, b1.trans (b2.mono b1.size)⟩
  | some l =>
    obtain ⟨q1, q2, q3, q4, q5⟩ := pack_unpack h8 hU
    have HU := Lib.hid hU
    have Q1 := Lib.hid q1
    obtain ⟨k, hk⟩ : ∃ k, k = l.length := ⟨_, rfl⟩
    rw [← hk] at q2 q5
    have HK := Lib.hid hk
    subst q2
    clear hU q1 hk
    go_enter Try.func18, Try.ntmps18
    go_wp2_with (first
      | (go_at_call 50; refine (small05_any w).mono ?_; rintro e w1 ⟨rfl, b1⟩
         have P1 := Lib.hid (unpack_any (c := c) x k (Reads.later h b1) h8 (by omega) hx hx1 hm (by omega))
         rw [HU.out] at P1)
      | (go_at_call 57; refine P1.out.mono ?_; rintro e w2 ⟨A2, n2, c2, rfl, k2, b2⟩
         have b02 := b1.trans (b2.mono b1.size)
         have l2 := k2.len
         rw [nums_length, ← HK.out] at l2
         subst l2
         have r2 := k2.reads
         have P2 := Lib.hid (pack_any (c := c2) x r2 q4 (by omega) hx hx1)
         rw [Q1.out] at P2)
      | (go_at_call 55; refine P2.out.mono ?_; rintro e w3 ⟨A3, n3, c3, rfl, k3, b3⟩
         have b03 := b02.trans (b3.mono b02.size)
         have r23 := Reads.later r2 b3
         have S1 := run_strB (c := c) (Reads.later h b03)
         have S2 := run_strB (c := c3) k3.reads)
      | (go_at_call 51; refine (width_any r23 q4 (by omega)).mono ?_; rintro e w7 ⟨rfl, rfl⟩))
    go_ret
    exact ⟨by simp, b03⟩

set_option maxHeartbeats 400000 in
theorem bitpackOnce_big {w : World} {A : Option Addr} {n c : Nat} {x m : Int} (hn : n ≤ 9223372036854775807) (hb : 300 < n ∨ 3000 < m) :
    Calls Try.prog 18 #[.slice A n c, .int .i64 x, .int .i64 m] w (SmallPost w) := by
  by_cases h1 : 300 < n
  all_goals try (have h3 : 3000 < m := by omega)
  all_goals
    clear hb
    go_enter Try.func18, Try.ntmps18
    go_wp2_with (go_at_call 50; refine (small05_any w).mono ?_; rintro e w1 ⟨rfl, b1⟩)
    go_ret
    exact ⟨rfl, b1⟩

open Go.WideShapes Go.ChangeShapes in
theorem bitpackOnce_contract {H : Type} {enc : TypeId × Value → H} (W : World) (base : Nat) (args : Array Value) (ds : List (DataW H)) (ps : List MemPlace)
    (hval : ∀ (j : Nat) t v, Try.f18.params[j]? = some t → args[j]? = some v → Value.okWide Try.prog W .any base t v)
    (hA : DataW.TrodAll enc Try.prog W 0 (fun _ => true) true Try.f18.params.toList args.toList ds ps) (hlt : ∀ p ∈ ps, p.block < W.heap.size)
    (hsz : (DataW.weightsEach Try.prog Try.f18.params.toList ds).all (· ≤ reachBytes) = true) :
    Calls Try.prog 18 args W fun e W' => e = .returned (.bool true) ∧ Below W.heap.size W W' := by
  rw [Try.params18] at hA hval hsz
  obtain ⟨v0, v1, v2, d0, d1, d2, p0, p1, p2, rfl, rfl, rfl, h0, h1, h2⟩ := trodAll_three hA
  obtain ⟨A_b, c_b, b, rfl, hc_b, hm_b, hr_b, hl_b⟩ := open_B (hval 0 _ _ rfl rfl) h0 (fun p hp => hlt p (by simp [hp])) (sized_at hsz (j := 0) rfl rfl)
  obtain ⟨x, rfl, wx, wx'⟩ := open_i64 (hval 1 _ _ rfl rfl) h1
  obtain ⟨m, rfl, wm, wm'⟩ := open_i64 (hval 2 _ _ rfl rfl) h2
  by_cases hb : 300 < b.length ∨ 3000 < m
  · exact bitpackOnce_big (by omega) hb
  · exact bitpackOnce_walk hr_b hl_b wx wx' wm (by omega) (by omega)
end Go.Proofs.Ytghfdbnbgkpnaaa
