/- FrontDecodes returns true whatever comes in, and leaves all that was there as it was. -/
import Derived.Test.YtehickkodcfmfaaSmallF

namespace Go.Proofs.Ytehickkodcfmfaa
open Go.RowKit Go.Hm

set_option maxHeartbeats 1000000 in
set_option maxRecDepth 100000 in
theorem frontDecodes_walk {w : World} {A : Option Addr} {n c : Nat} {b : List Nat} {m : Int} (h : Reads w w.heap.size 1 A n (nums .u8 b)) (h8 : ∀ x ∈ b, x < 256) (hn : n ≤ 500) (hc : n ≤ c) (hc1 : c ≤ 140737488351232) (hm : -9223372036854775808 ≤ m) (hm1 : m ≤ 1000) :
    Calls Try.prog 11 #[.slice A n c, .int .i64 m] w (SmallPost w) := by
  have h3 : decide (1000 < m) = false := by simpa using hm1
  have HE := Lib.hid (fun (W : World) (hW : New w W) => fdec_any (c := c) (m := m) (Reads.later h hW) h8 (by omega) hm (by omega))
  have HR := Lib.hid (fun (W : World) (hW : New w W) => rfdec_any (c := c) (m := m) (Reads.later h hW) h8 (by omega) hc hc1 hm (by omega))
  have H8 := Lib.hid (decF_8 (n := m) h8)
  clear hc h8 hm1
  generalize decF b m = o at *
  generalize ho1 : o.isSome = oi at *
  generalize ho2 : o.getD [] = og at *
  have HO := Lib.hid (And.intro ho1 ho2)
  clear ho1 ho2
  go_enter Try.func11, Try.ntmps11
  go_wp2_with (first
    | (go_at_call 28; refine (small13_any w).mono ?_; rintro e w1 ⟨rfl, b1⟩
       have P1 := Lib.hid (HE.out w1 b1))
    | (go_at_call 34; refine P1.out.mono ?_; intro e w2 hh; obtain ⟨A3, n3, c3, rfl, k3, b2⟩ := OptT.u hh; clear hh
       rw [HO.out.1]
       rw [HO.out.2] at k3
       have b02 := New.trans b1 b2
       have P2 := Lib.hid (HR.out w2 b02))
    | (go_at_call 35; refine P2.out.mono ?_; intro e w3 hh; obtain ⟨A4, n4, c4, rfl, k4, b3⟩ := OptT.u hh; clear hh
       rw [HO.out.1]
       rw [HO.out.2] at k4
       have b03 := New.trans b02 b3
       have q3 : n3 ≤ 65536 := by have l := k3.len; rw [strs_length] at l; have := H8.out.2.1; omega
       have q4 : n4 ≤ 65536 := by have l := k4.len; rw [strs_length] at l; have := H8.out.2.1; omega
       have Q := Lib.hid (sameT_any (c := c3) (c2 := c4) (Reads.later k3.reads b3) k4.reads H8.out.1 H8.out.1 (by omega) (by omega)))
    | (go_at_call 36; refine Q.out.mono ?_; rintro e w4 ⟨rfl, b4⟩))
  go_ret
  exact ⟨by simp, New.trans b03 b4⟩

set_option maxHeartbeats 400000 in
theorem frontDecodes_big {w : World} {A : Option Addr} {n c : Nat} {m : Int} (hn : n ≤ 9223372036854775807) (hb : 500 < n ∨ 1000 < m) :
    Calls Try.prog 11 #[.slice A n c, .int .i64 m] w (SmallPost w) := by
  by_cases h1 : 500 < n
  all_goals try (have h3 : 1000 < m := by omega)
  all_goals
    clear hb
    go_enter Try.func11, Try.ntmps11
    go_wp2_with (go_at_call 28; refine (small13_any w).mono ?_; rintro e w1 ⟨rfl, b1⟩)
    go_ret
    exact ⟨rfl, b1⟩

open Go.WideShapes Go.ChangeShapes in
theorem frontDecodes_contract {H : Type} {enc : TypeId × Value → H} (W : World) (base : Nat) (args : Array Value) (ds : List (DataW H)) (ps : List MemPlace)
    (hval : ∀ (j : Nat) t v, Try.f11.params[j]? = some t → args[j]? = some v → Value.okWide Try.prog W .any base t v)
    (hA : DataW.TrodAll enc Try.prog W 0 (fun _ => true) true Try.f11.params.toList args.toList ds ps) (hlt : ∀ p ∈ ps, p.block < W.heap.size)
    (hsz : (DataW.weightsEach Try.prog Try.f11.params.toList ds).all (· ≤ reachBytes) = true) :
    Calls Try.prog 11 args W fun e W' => e = .returned (.bool true) ∧ Below W.heap.size W W' := by
  rw [Try.params11] at hA hval hsz
  obtain ⟨v0, v1, d0, d1, p0, p1, rfl, rfl, rfl, h0, h1⟩ := trodAll_two hA
  obtain ⟨A_b, c_b, b, rfl, hc_b, hm_b, hr_b, hl_b⟩ := open_B (hval 0 _ _ rfl rfl) h0 (fun p hp => hlt p (by simp [hp])) (sized_at hsz (j := 0) rfl rfl)
  obtain ⟨m, rfl, wm, wm'⟩ := open_i64 (hval 1 _ _ rfl rfl) h1
  by_cases hb : 500 < b.length ∨ 1000 < m
  · exact frontDecodes_big (by omega) hb
  · exact frontDecodes_walk hr_b hl_b (by omega) hc_b hm_b wm (by omega)

end Go.Proofs.Ytehickkodcfmfaa
