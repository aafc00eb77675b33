/- ProofNeeds returns true whatever comes in, and leaves all that was there as it was. -/
import Derived.Test.YtgfemjpeegbhhaaDoorBun9

namespace Go.Proofs.YtgfemjpeegbhhaaDoor
open Go.RowKit Go.Hm
set_option maxHeartbeats 4000000 in
set_option maxRecDepth 100000 in
theorem proofNeeds_walk {w : World} (n f t : Int) (n0 : -9223372036854775808 ≤ n) (n1 : n ≤ 9223372036854775807) (hC : ConstIn w) :
    Calls Tryd.prog 9 #[.int .i64 n, .int .i64 f, .int .i64 t] w (SmallPost w) := by
  have SM := Lib.hid (small22_any w hC)
  have N := Lib.hid (fun W => need_any n f t W n0 n1)
  have R := Lib.hid (fun W => rneed_any n f t W)
  generalize needI n f t = y at *
  clear hC
  go_enter Tryd.func9, Tryd.ntmps9
  go_wp2_with fail
  refine SM.out.mono ?_
  rintro e w1 ⟨rfl, b1⟩
  have B1 := Lib.hid b1
  clear SM b1
  go_wp2_with fail
  (with_reducible refine (N.out _).mono ?_)
  rintro e w2 ⟨rfl, b2⟩
  have B2 := Lib.hid (New.trans B1.out b2)
  clear b2
  go_wp2_with fail
  (with_reducible refine (R.out _).mono ?_)
  rintro e w3 ⟨rfl, rfl⟩
  go_wp2
  go_ret
  exact ⟨by simp, B2.out⟩

set_option maxRecDepth 100000 in
open Go.WideShapes Go.ChangeShapes in
theorem proofNeeds_contract {H : Type} {enc : TypeId × Value → H} (W : World) (base : Nat) (args : Array Value) (ds : List (DataW H)) (ps : List MemPlace)
    (hval : ∀ (j : Nat) t v, Tryd.f9.params[j]? = some t → args[j]? = some v → Value.okWide Tryd.prog W .any base t v)
    (hA : DataW.TrodAll enc Tryd.prog W 0 (fun _ => true) true Tryd.f9.params.toList args.toList ds ps) (hlt : ∀ p ∈ ps, p.block < W.heap.size)
    (hsz : (DataW.weightsEach Tryd.prog Tryd.f9.params.toList ds).all (· ≤ reachBytes) = true) (hL : laidMetH Tryd.prog laidC W) :
    Calls Tryd.prog 9 args W fun e W' => e = .returned (.bool true) ∧ Below W.heap.size W W' := by
  rw [Tryd.params9] at hA hval hsz
  obtain ⟨v0, v1, v2, d0, d1, d2, p0, p1, p2, rfl, rfl, rfl, h0, h1, h2⟩ := trodAll_three hA
  obtain ⟨n, rfl, wn, wn'⟩ := open_i64 (hval 0 _ _ rfl rfl) h0
  obtain ⟨f, rfl, wf, wf'⟩ := open_i64 (hval 1 _ _ rfl rfl) h1
  obtain ⟨t, rfl, wt, wt'⟩ := open_i64 (hval 2 _ _ rfl rfl) h2
  have _ := hlt
  have _ := wf
  have _ := wf'
  have _ := wt
  have _ := wt'
  exact proofNeeds_walk n f t wn wn' (const_of_laid hL)

end Go.Proofs.YtgfemjpeegbhhaaDoor
