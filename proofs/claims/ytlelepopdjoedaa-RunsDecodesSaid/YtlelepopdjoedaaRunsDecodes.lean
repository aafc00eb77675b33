/- RunsDecodes returns true whatever comes in, and leaves all that was there as it was. -/
import Derived.Test.YtlelepopdjoedaaLaw10

namespace Go.Proofs.Ytlelepopdjoedaa
open Go.RowKit Go.Hm

set_option maxHeartbeats 1000000 in
set_option maxRecDepth 100000 in
theorem runsDecodes_walk {w : World} {A : Option Addr} {n c : Nat} {b : List Nat} {m : Int} (h : Reads w w.heap.size 1 A n (nums .u8 b)) (h8 : ∀ x ∈ b, x < 256) (hn : n ≤ 600) (hc : n ≤ c) (hcm : c ≤ maxLen) (hm1 : m ≤ 3000) :
    Calls Try.prog 4 #[.slice A n c, .int .i64 m] w (SmallPost w) := by
  have h3 : decide (3000 < m) = false := by simpa using hm1
  have HE := Lib.hid (fun (W : World) (hW : New w W) => decode_all (c := c) (n := m) (Reads.later h hW) h8 (by omega))
  have HR := Lib.hid (fun (W : World) (hW : New w W) => rdecode_all (c := c) (n := m) (Reads.later h hW) hc hcm h8)
  clear h8 hm1 hc
  go_enter Try.func4, Try.ntmps4
  go_wp2_with fail
  refine (small10_any w).mono ?_
  rintro e w1 ⟨rfl, b1⟩
  go_wp2_with fail
  refine (HE.out w1 b1).mono ?_
  intro e w2 hh
  obtain ⟨o, A3, n3, c3, i3, rfl, q3, k3, b2⟩ := hh.u
  have b02 := New.trans b1 b2
  clear hh
  go_wp2_with fail
  refine (HR.out w2 b02).mono ?_
  intro e w3 hh
  obtain ⟨p, A4, n4, c4, i4, rfl, q4, k4, b3⟩ := hh.u
  obtain rfl := isDec_uniq i3 i4
  have b03 := New.trans b02 b3
  have Q := Lib.hid (same_any (c := c3) (c2 := c4) (Reads.later k3.reads b3) k4.reads (by omega) (by omega))
  rw [decide_eq_true rfl] at Q
  clear hh HE HR i3 i4 k3 k4
  go_wp2_with (go_at_call 17; refine Q.out.mono ?_; rintro e w4 ⟨rfl, b4⟩)
  go_ret
  exact ⟨by simp, New.trans b03 b4⟩

set_option maxHeartbeats 400000 in
theorem runsDecodes_big {w : World} {A : Option Addr} {n c : Nat} {m : Int} (hn : n ≤ 9223372036854775807) (hb : 600 < n ∨ 3000 < m) :
    Calls Try.prog 4 #[.slice A n c, .int .i64 m] w (SmallPost w) := by
  by_cases h1 : 600 < n
  all_goals try (have h3 : 3000 < m := by omega)
  all_goals
    clear hb
    go_enter Try.func4, Try.ntmps4
    go_wp2_with (go_at_call 10; refine (small10_any w).mono ?_; rintro e w1 ⟨rfl, b1⟩)
    go_ret
    exact ⟨rfl, b1⟩

set_option maxRecDepth 100000 in
open Go.WideShapes Go.ChangeShapes in
theorem runsDecodes_contract {H : Type} {enc : TypeId × Value → H} (W : World) (base : Nat) (args : Array Value) (ds : List (DataW H)) (ps : List MemPlace)
    (hval : ∀ (j : Nat) t v, Try.f4.params[j]? = some t → args[j]? = some v → Value.okWide Try.prog W .any base t v)
    (hA : DataW.TrodAll enc Try.prog W 0 (fun _ => true) true Try.f4.params.toList args.toList ds ps) (hlt : ∀ p ∈ ps, p.block < W.heap.size)
    (hsz : (DataW.weightsEach Try.prog Try.f4.params.toList ds).all (· ≤ reachBytes) = true) :
    Calls Try.prog 4 args W fun e W' => e = .returned (.bool true) ∧ Below W.heap.size W W' := by
  rw [Try.params4] at hA hval hsz
  obtain ⟨v0, v1, d0, d1, p0, p1, rfl, rfl, rfl, h0, h1⟩ := trodAll_two hA
  obtain ⟨A_b, c_b, b, rfl, hc_b, hm_b, hr_b, hl_b⟩ := open_B (hval 0 _ _ rfl rfl) h0 (fun p hp => hlt p (by simp [hp])) (sized_at hsz (j := 0) rfl rfl)
  obtain ⟨m, rfl, wm, wm'⟩ := open_i64 (hval 1 _ _ rfl rfl) h1
  by_cases hb : 600 < b.length ∨ 3000 < m
  · exact runsDecodes_big (by omega) hb
  · exact runsDecodes_walk hr_b hl_b (by omega) hc_b (by simp only [maxLen]; omega) (by omega)

end Go.Proofs.Ytlelepopdjoedaa
