/- LayoutCuts returns true whatever comes in, and leaves all that was there as it was. -/
import Derived.Test.YtpbfohgmhjadpaaLaw18

namespace Go.Proofs.Ytpbfohgmhjadpaa
open Go.RowKit Go.Hm

set_option maxHeartbeats 1000000 in
set_option maxRecDepth 100000 in
theorem layoutCuts_walk {w : World} {f t s x y : Int} (h1 : -9223372036854775808 ≤ f) (h2 : t ≤ 9223372036854775807) (h3 : s ≤ 9223372036854775807) :
    Calls Try.prog 3 #[.int .i64 f, .int .i64 t, .int .i64 s, .int .i64 x, .int .i64 y] w (SmallPost w) := by
  have HF := Lib.hid (fun W => few18_any f t s W)
  have HC := Lib.hid (fun W => cut_any f t s h1 h2 h3 W)
  have HR := Lib.hid (fun W => rcut_any f t s h1 h2 h3 W)
  have hu := cutS_up f t s
  have hl := cutS_len f t s
  generalize cutS f t s = l at *
  have HU := Lib.hid hu
  clear hu h1 h2 h3
  go_enter Try.func3, Try.ntmps3
  go_wp2_with fail
  refine (small18_any w).mono ?_
  rintro e w1 ⟨rfl, b1⟩
  go_wp2_with fail
  refine (HF.out w1).mono ?_
  rintro e w2 ⟨bb, rfl, rfl⟩
  cases bb
  · go_wp2
    go_ret
    exact ⟨rfl, b1⟩
  · go_wp2_with fail
    refine (HC.out w1).mono ?_
    rintro e w2 ⟨A2, n2, c2, rfl, k2, b2⟩
    have r2 := Reads.of_own k2
    obtain rfl := r2.lenP
    have b02 := New.trans b1 b2
    clear k2 b2 b1
    go_wp2_with fail
    refine (HR.out w2).mono ?_
    rintro e w3 ⟨A3, n3, c3, rfl, k3, b3⟩
    have r3 := Reads.of_own k3
    obtain rfl := r3.lenP
    have r2 := Reads.later r2 b3
    have b03 := New.trans b02 b3
    have P4 := Lib.hid (over_any (c := c3) (f := x) (t := y) r3 HU.out (by omega))
    clear k3 b3 b02
    go_wp2_with fail
    refine P4.out.mono ?_
    rintro e w4 ⟨a1, d1, rfl, o1, b4⟩
    have r2 := Reads.later r2 b4
    have r3 := Reads.later r3 b4
    have b04 := New.trans b03 b4
    have O1 := Lib.hid o1
    have P5 := Lib.hid (rover_any (c := c3) (f := x) (t := y) r3 HU.out (by omega))
    clear P4 b4 o1 b03
    go_wp2_with fail
    refine P5.out.mono ?_
    rintro e w5 ⟨a2, d2, rfl, o2, b5⟩
    obtain ⟨rfl, rfl⟩ := O1.out.one o2
    have r2 := Reads.later r2 b5
    have r3 := Reads.later r3 b5
    have b05 := New.trans b04 b5
    have P6 := Lib.hid (spans_any (c := c2) (c2 := c3) r2 r3 (by omega))
    clear P5 b5 o2 b04
    go_wp2_with fail
    refine P6.out.mono ?_
    rintro e w6 ⟨rfl, b6⟩
    go_wp2
    go_ret
    exact ⟨by simp, New.trans b05 b6⟩

set_option maxRecDepth 100000 in
open Go.WideShapes Go.ChangeShapes in
theorem layoutCuts_contract {H : Type} {enc : TypeId × Value → H} (W : World) (base : Nat) (args : Array Value) (ds : List (DataW H)) (ps : List MemPlace)
    (hval : ∀ (j : Nat) t v, Try.f3.params[j]? = some t → args[j]? = some v → Value.okWide Try.prog W .any base t v)
    (hA : DataW.TrodAll enc Try.prog W 0 (fun _ => true) true Try.f3.params.toList args.toList ds ps) (hlt : ∀ p ∈ ps, p.block < W.heap.size)
    (hsz : (DataW.weightsEach Try.prog Try.f3.params.toList ds).all (· ≤ reachBytes) = true) :
    Calls Try.prog 3 args W fun e W' => e = .returned (.bool true) ∧ Below W.heap.size W W' := by
  rw [Try.params3] at hA hval hsz
  obtain ⟨v0, v1, v2, v3, v4, d0, d1, d2, d3, d4, p0, p1, p2, p3, p4, rfl, rfl, rfl, h0, h1, h2, h3, h4⟩ := trodAll_five hA
  obtain ⟨a, rfl, wa, wa'⟩ := open_i64 (hval 0 _ _ rfl rfl) h0
  obtain ⟨b, rfl, wb, wb'⟩ := open_i64 (hval 1 _ _ rfl rfl) h1
  obtain ⟨c, rfl, wc, wc'⟩ := open_i64 (hval 2 _ _ rfl rfl) h2
  obtain ⟨d, rfl, wd, wd'⟩ := open_i64 (hval 3 _ _ rfl rfl) h3
  obtain ⟨f, rfl, wf, wf'⟩ := open_i64 (hval 4 _ _ rfl rfl) h4
  exact layoutCuts_walk wa wb' wc'

end Go.Proofs.Ytpbfohgmhjadpaa
