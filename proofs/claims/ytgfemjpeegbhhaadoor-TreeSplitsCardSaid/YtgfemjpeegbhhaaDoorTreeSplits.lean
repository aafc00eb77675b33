/- TreeSplits returns true whatever comes in, and leaves all that was there as it was. -/
import Derived.Test.YtgfemjpeegbhhaaDoorBun7

namespace Go.Proofs.YtgfemjpeegbhhaaDoor
open Go.RowKit Go.Hm
set_option maxHeartbeats 4000000 in
set_option maxRecDepth 100000 in
theorem treeSplits_walk {w : World} (n : Int) (h0 : -9223372036854775808 ≤ n) (h1 : n ≤ 9223372036854775807) (hC : ConstIn w) :
    Calls Tryd.prog 4 #[.int .i64 n] w (SmallPost w) := by
  have SM := Lib.hid (small21_any w hC)
  clear hC
  go_enter Tryd.func4, Tryd.ntmps4
  go_wp2_with fail
  refine SM.out.mono ?_
  rintro e w1 ⟨rfl, b1⟩
  have B1 := Lib.hid b1
  clear SM b1
  by_cases hb : 1099511627776 < n
  · have d : decide ((1099511627776 : Int) < n) = true := decide_eq_true hb
    go_wp2
    go_ret
    exact ⟨rfl, B1.out⟩
  have d : decide ((1099511627776 : Int) < n) = false := decide_eq_false hb
  have S1 := Lib.hid (split_any n w1 h0 h1)
  have S2 := Lib.hid (rsplit_any n w1 h0 (by omega))
  have D1 := Lib.hid (depth_any (n.toNat + 1) n w1 (by omega) h0 h1)
  have D2 := Lib.hid (rdepth_any (n.toNat + 1) n w1 (by omega) h0 (by omega))
  generalize splitN n.toNat = sn at *
  generalize depthN n.toNat = dn at *
  go_wp2_with fail
  (with_reducible refine S1.out.mono ?_)
  rintro e w2 ⟨rfl, rfl⟩
  go_wp2_with fail
  (with_reducible refine S2.out.mono ?_)
  rintro e w3 ⟨rfl, rfl⟩
  go_wp2_with fail
  (with_reducible refine D1.out.mono ?_)
  rintro e w4 ⟨rfl, rfl⟩
  go_wp2_with fail
  (with_reducible refine D2.out.mono ?_)
  rintro e w5 ⟨rfl, rfl⟩
  go_wp2
  go_ret
  exact ⟨by simp, B1.out⟩

set_option maxRecDepth 100000 in
open Go.WideShapes Go.ChangeShapes in
theorem treeSplits_contract {H : Type} {enc : TypeId × Value → H} (W : World) (base : Nat) (args : Array Value) (ds : List (DataW H)) (ps : List MemPlace)
    (hval : ∀ (j : Nat) t v, Tryd.f4.params[j]? = some t → args[j]? = some v → Value.okWide Tryd.prog W .any base t v)
    (hA : DataW.TrodAll enc Tryd.prog W 0 (fun _ => true) true Tryd.f4.params.toList args.toList ds ps) (hlt : ∀ p ∈ ps, p.block < W.heap.size)
    (hsz : (DataW.weightsEach Tryd.prog Tryd.f4.params.toList ds).all (· ≤ reachBytes) = true) (hL : laidMetH Tryd.prog laidC W) :
    Calls Tryd.prog 4 args W fun e W' => e = .returned (.bool true) ∧ Below W.heap.size W W' := by
  rw [Tryd.params4] at hA hval hsz
  obtain ⟨v0, d0, rfl, rfl, h0⟩ := trodAll_one hA
  obtain ⟨n, rfl, wn, wn'⟩ := open_i64 (hval 0 _ _ rfl rfl) h0
  have _ := hlt
  exact treeSplits_walk n wn wn' (const_of_laid hL)

end Go.Proofs.YtgfemjpeegbhhaaDoor
