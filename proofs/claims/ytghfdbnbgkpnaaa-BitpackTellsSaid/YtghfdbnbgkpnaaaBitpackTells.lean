/- BitpackTells returns true whatever comes in, and leaves all that was there as it was. -/
import Derived.Test.YtghfdbnbgkpnaaaLaw05
namespace Go.Proofs.Ytghfdbnbgkpnaaa
open Go.RowKit Go.Hm

set_option maxHeartbeats 1000000 in
theorem bitpackTells_walk {w : World} {A : Option Addr} {n c : Nat} {L : List Nat} {x m : Int} (h : Reads w w.heap.size 1 A n (nums .u64 L)) (hL : ∀ x ∈ L, x ≤ 18446744073709551615) (hn : n ≤ 9223372036854775807)
    (hx : -9223372036854775808 ≤ x) (hx1 : x ≤ 9223372036854775807) (hm : -9223372036854775808 ≤ m) (hm1 : m ≤ 9223372036854775807) :
    Calls Try.prog 15 #[.slice A n c, .int .i64 x, .int .i64 m] w (SmallPost w) := by
  by_cases hb : 300 < n
  all_goals
    go_enter Try.func15, Try.ntmps15
    go_wp2_with (first
      | (go_at_call 50; refine (small05_any w).mono ?_; rintro e w1 ⟨rfl, b1⟩
         have h1 := Reads.later h b1)
      | (go_at_call 51; refine (width_any h1 hL hn).mono ?_; rintro e w7 ⟨rfl, rfl⟩)
      | (go_at_call 52; refine (rwidth_any h1 hL hn).mono ?_; rintro e w7 ⟨rfl, rfl⟩)
      | (go_at_call 53; refine (bytes_any x m _ hx hx1 hm hm1).mono ?_; rintro e w7 ⟨rfl, rfl⟩)
      | (go_at_call 54; refine (rbytes_any x m _ hx hx1 hm hm1).mono ?_; rintro e w7 ⟨rfl, rfl⟩))
    go_ret
    exact ⟨rfl, b1⟩

open Go.WideShapes Go.ChangeShapes in
theorem bitpackTells_contract {H : Type} {enc : TypeId × Value → H} (W : World) (base : Nat) (args : Array Value) (ds : List (DataW H)) (ps : List MemPlace)
    (hval : ∀ (j : Nat) t v, Try.f15.params[j]? = some t → args[j]? = some v → Value.okWide Try.prog W .any base t v)
    (hA : DataW.TrodAll enc Try.prog W 0 (fun _ => true) true Try.f15.params.toList args.toList ds ps) (hlt : ∀ p ∈ ps, p.block < W.heap.size)
    (hsz : (DataW.weightsEach Try.prog Try.f15.params.toList ds).all (· ≤ reachBytes) = true) :
    Calls Try.prog 15 args W fun e W' => e = .returned (.bool true) ∧ Below W.heap.size W W' := by
  rw [Try.params15] at hA hval hsz
  obtain ⟨v0, v1, v2, d0, d1, d2, p0, p1, p2, rfl, rfl, rfl, h0, h1, h2⟩ := trodAll_three hA
  obtain ⟨A_L, c_L, L, rfl, hc_L, hm_L, hr_L, hl_L⟩ := open_W (hval 0 _ _ rfl rfl) h0 (fun p hp => hlt p (by simp [hp])) (sized_at hsz (j := 0) rfl rfl)
  obtain ⟨x, rfl, wx, wx'⟩ := open_i64 (hval 1 _ _ rfl rfl) h1
  obtain ⟨m, rfl, wm, wm'⟩ := open_i64 (hval 2 _ _ rfl rfl) h2
  exact bitpackTells_walk hr_L hl_L (by omega) wx wx' wm wm'
end Go.Proofs.Ytghfdbnbgkpnaaa
