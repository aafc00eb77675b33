/- VarintZigs returns true whatever comes in, and leaves all that was there as it was. -/
import Derived.Test.YtghfdbnbgkpnaaaSmallV
import Derived.Test.YtghfdbnbgkpnaaaOpen
namespace Go.Hm
theorem zig_lt {x : Int} (h : -9223372036854775808 ≤ x) (h1 : x ≤ 9223372036854775807) : zig x < 18446744073709551616 := by unfold zig; split <;> omega
theorem zag_lo {n : Nat} (h : n < 18446744073709551616) : -9223372036854775808 ≤ zag n := by unfold zag; split <;> omega
theorem zag_hi {n : Nat} (h : n < 18446744073709551616) : zag n ≤ 9223372036854775807 := by unfold zag; split <;> omega
theorem zig_even {x : Int} : ((zig x : Int) % 2 == 0) = decide (0 ≤ x) := by
  by_cases h : 0 ≤ x
  · rw [decide_eq_true h, beq_iff_eq]; unfold zig; split <;> omega
  · rw [decide_eq_false h, beq_eq_false_iff_ne]; unfold zig; split <;> omega
end Go.Hm
namespace Go.Proofs.Ytghfdbnbgkpnaaa
open Go.RowKit Go.Hm

set_option maxHeartbeats 400000 in
theorem varintZigs_walk {w : World} {x : Int} {u : Nat} (h : -9223372036854775808 ≤ x) (h1 : x ≤ 9223372036854775807) (hu : u < 18446744073709551616) :
    Calls Try.prog 13 #[.int .i64 x, .int .u64 (u : Int)] w (SmallPost w) := by
  have hz := zig_lt h h1
  have l1 := zag_lo hu
  have l2 := zag_hi hu
  have he := zig_even (x := x)
  have hzz := zig_zag u
  have hzx := zag_zig x
  go_enter Try.func13, Try.ntmps13
  go_wp2_with (first
    | (go_at_call 37; refine (small04_any w).mono ?_; rintro e w1 ⟨rfl, b1⟩
       have Z1 := Lib.hid (zig_any x w1 h h1)
       have Z2 := Lib.hid (zag_any (zig x) w1 hz)
       have Z3 := Lib.hid (zag_any u w1 hu)
       have Z4 := Lib.hid (zig_any (zag u) w1 l1 l2))
    | (go_at_call 42; (with_reducible refine Z1.out.mono ?_); rintro e w2 ⟨rfl, rfl⟩)
    | (go_at_call 44; (with_reducible refine Z2.out.mono ?_); rintro e w2 ⟨rfl, rfl⟩)
    | (go_at_call 44; (with_reducible refine Z3.out.mono ?_); rintro e w2 ⟨rfl, rfl⟩)
    | (go_at_call 42; (with_reducible refine Z4.out.mono ?_); rintro e w2 ⟨rfl, rfl⟩))
  trace_state
  go_ret
  exact ⟨rfl, b1⟩

open Go.WideShapes Go.ChangeShapes in
theorem varintZigs_contract {H : Type} {enc : TypeId × Value → H} (W : World) (base : Nat) (args : Array Value) (ds : List (DataW H)) (ps : List MemPlace)
    (hval : ∀ (j : Nat) t v, Try.f13.params[j]? = some t → args[j]? = some v → Value.okWide Try.prog W .any base t v)
    (hA : DataW.TrodAll enc Try.prog W 0 (fun _ => true) true Try.f13.params.toList args.toList ds ps) (hlt : ∀ p ∈ ps, p.block < W.heap.size)
    (hsz : (DataW.weightsEach Try.prog Try.f13.params.toList ds).all (· ≤ reachBytes) = true) :
    Calls Try.prog 13 args W fun e W' => e = .returned (.bool true) ∧ Below W.heap.size W W' := by
  rw [Try.params13] at hA hval hsz
  obtain ⟨v0, v1, d0, d1, p0, p1, rfl, rfl, rfl, h0, h1⟩ := trodAll_two hA
  obtain ⟨x, rfl, wx, wx1⟩ := open_i64 (hval 0 _ _ rfl rfl) h0
  obtain ⟨u, rfl, wu⟩ := open_u64 (hval 1 _ _ rfl rfl) h1
  exact varintZigs_walk wx wx1 (by omega)
end Go.Proofs.Ytghfdbnbgkpnaaa
