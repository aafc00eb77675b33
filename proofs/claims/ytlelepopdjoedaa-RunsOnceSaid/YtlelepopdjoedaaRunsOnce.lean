/- RunsOnce returns true whatever comes in, and leaves all that was there as it was. -/
import Derived.Test.YtlelepopdjoedaaLaw10

namespace Go.Proofs.Ytlelepopdjoedaa
open Go.RowKit Go.Hm

set_option maxHeartbeats 1000000 in
set_option maxRecDepth 100000 in
theorem runsOnce_walk {w : World} {A : Option Addr} {n c : Nat} {b : List Nat} {m : Int} (h : Reads w w.heap.size 1 A n (nums .u8 b)) (h8 : ∀ x ∈ b, x < 256) (hn : n ≤ 600) (hm1 : m ≤ 3000) :
    Calls Try.prog 6 #[.slice A n c, .int .i64 m] w (SmallPost w) := by
  have h3 : decide (3000 < m) = false := by simpa using hm1
  have HE := Lib.hid (fun (W : World) (hW : New w W) => decode_all (c := c) (n := m) (Reads.later h hW) h8 (by omega))
  clear h8 hm1
  go_enter Try.func6, Try.ntmps6
  go_wp2_with fail
  refine (small10_any w).mono ?_
  rintro e w1 ⟨rfl, b1⟩
  go_wp2_with fail
  refine (HE.out w1 b1).mono ?_
  rintro e w2 ⟨o, i2, k2⟩
  cases o with
  | none =>
    obtain ⟨rfl, b2⟩ := k2
    clear HE i2
    go_wp2_with fail
    go_ret
    exact ⟨rfl, New.trans b1 b2⟩
  | some l =>
    obtain ⟨A2, n2, c2, rfl, k2, b2⟩ := k2
    obtain ⟨e1, e2, e3, e4⟩ := (i2 l).1 rfl
    have b02 := New.trans b1 b2
    have l2 := k2.len
    rw [nums_length] at l2
    have hmn : m = (n2 : Int) := by omega
    have hn2 : n2 ≤ 65536 := by omega
    subst hmn
    have P2 := Lib.hid (enc_all (c := c2) k2.reads (k2.cap.1) e3 hn2)
    rw [e4] at P2
    clear HE i2 e1 e2 e3 e4 k2 l2
    go_wp2_with fail
    refine P2.out.mono ?_
    rintro e w3 ⟨A3, n3, c3, rfl, k3, b3⟩
    have b03 := New.trans b02 b3
    have S1 := run_strB (c := c) (Reads.later h b03)
    have S2 := run_strB (c := c3) k3.reads
    clear P2
    go_wp2_with fail
    go_ret
    exact ⟨by simp, b03⟩

set_option maxHeartbeats 400000 in
theorem runsOnce_big {w : World} {A : Option Addr} {n c : Nat} {m : Int} (hn : n ≤ 9223372036854775807) (hb : 600 < n ∨ 3000 < m) :
    Calls Try.prog 6 #[.slice A n c, .int .i64 m] w (SmallPost w) := by
  by_cases h1 : 600 < n
  all_goals try (have h3 : 3000 < m := by omega)
  all_goals
    clear hb
    go_enter Try.func6, Try.ntmps6
    go_wp2_with (go_at_call 10; refine (small10_any w).mono ?_; rintro e w1 ⟨rfl, b1⟩)
    go_ret
    exact ⟨rfl, b1⟩

set_option maxRecDepth 100000 in
open Go.WideShapes Go.ChangeShapes in
theorem runsOnce_contract {H : Type} {enc : TypeId × Value → H} (W : World) (base : Nat) (args : Array Value) (ds : List (DataW H)) (ps : List MemPlace)
    (hval : ∀ (j : Nat) t v, Try.f6.params[j]? = some t → args[j]? = some v → Value.okWide Try.prog W .any base t v)
    (hA : DataW.TrodAll enc Try.prog W 0 (fun _ => true) true Try.f6.params.toList args.toList ds ps) (hlt : ∀ p ∈ ps, p.block < W.heap.size)
    (hsz : (DataW.weightsEach Try.prog Try.f6.params.toList ds).all (· ≤ reachBytes) = true) :
    Calls Try.prog 6 args W fun e W' => e = .returned (.bool true) ∧ Below W.heap.size W W' := by
  rw [Try.params6] at hA hval hsz
  obtain ⟨v0, v1, d0, d1, p0, p1, rfl, rfl, rfl, h0, h1⟩ := trodAll_two hA
  obtain ⟨A_b, c_b, b, rfl, hc_b, hm_b, hr_b, hl_b⟩ := open_B (hval 0 _ _ rfl rfl) h0 (fun p hp => hlt p (by simp [hp])) (sized_at hsz (j := 0) rfl rfl)
  obtain ⟨m, rfl, wm, wm'⟩ := open_i64 (hval 1 _ _ rfl rfl) h1
  by_cases hb : 600 < b.length ∨ 3000 < m
  · exact runsOnce_big (by omega) hb
  · exact runsOnce_walk hr_b hl_b (by omega) (by omega)

end Go.Proofs.Ytlelepopdjoedaa
