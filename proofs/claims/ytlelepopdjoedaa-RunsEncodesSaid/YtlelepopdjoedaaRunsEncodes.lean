/- RunsEncodes returns true whatever comes in, and leaves all that was there as it was. -/
import Derived.Test.YtlelepopdjoedaaLaw10

namespace Go.Proofs.Ytlelepopdjoedaa
open Go.RowKit Go.Hm

set_option maxHeartbeats 1000000 in
set_option maxRecDepth 100000 in
theorem runsEncodes_walk {w : World} {A : Option Addr} {c : Nat} {L : List Nat} (h : Reads w w.heap.size 1 A L.length (nums .u64 L)) (hc : L.length ≤ c) (hL : ∀ x ∈ L, x ≤ 18446744073709551615) (hn : L.length ≤ 400) :
    Calls Try.prog 3 #[.slice A L.length c] w (SmallPost w) := by
  have HE := Lib.hid (fun (W : World) (hW : New w W) => enc_all (c := c) (Reads.later h hW) hc hL (by omega))
  have HF := Lib.hid (fun (W : World) (hW : New w W) => renc_all (c := c) (Reads.later h hW) hc hL (by omega))
  have HC := Lib.hid (fun (W : World) (hW : New w W) => cut_any (c := c) (Reads.later h hW) hc (by omega))
  have HD := Lib.hid (fun (W : World) (hW : New w W) => rcut_any (c := c) (Reads.later h hW) hc (by omega))
  clear h hL hc
  unfold CutPost at HC HD
  generalize encL L = b at *
  generalize cuts L = C at *
  go_enter Try.func3, Try.ntmps3
  go_wp2_with fail
  refine (small10_any w).mono ?_
  rintro e w1 ⟨rfl, b1⟩
  go_wp2_with fail
  refine (HE.out w1 b1).mono ?_
  rintro e w2 ⟨A2, n2, c2, rfl, k2, b2⟩
  have b02 := New.trans b1 b2
  go_wp2_with fail
  refine (HF.out w2 b02).mono ?_
  rintro e w3 ⟨A3, n3, c3, rfl, k3, b3⟩
  have b03 := New.trans b02 b3
  go_wp2_with fail
  refine (HC.out w3 b03).mono ?_
  rintro e w4 ⟨v4, rfl, k4, b4⟩
  have b04 := New.trans b03 b4
  go_wp2_with fail
  refine (HD.out w4 b04).mono ?_
  rintro e w5 ⟨v5, rfl, k5, b5⟩
  have b05 := New.trans b04 b5
  have r2 := Reads.later k2.reads (New.trans b3 (New.trans b4 b5))
  have r3 := Reads.later k3.reads (New.trans b4 b5)
  obtain ⟨A4, c4, rfl, -, -⟩ := k4.slice
  obtain ⟨A5, c5, rfl, -, hm5⟩ := k5.slice
  rw [nums_length] at k4 k5 ⊢
  have hC : C.length ≤ 9223372036854775807 := by have := k5.cap; simp only [maxLen] at this; omega
  have r4 := Reads.later k4.reads b5
  have r5 := k5.reads
  have R2 := Lib.hid r2
  have R3 := Lib.hid r3
  have H4 := Lib.hid r4
  have H5 := Lib.hid r5
  clear HE HF HC HD k2 k3 k4 k5 b1 b2 b3 b4 b5 r2 r3 r4 r5 b02 b03 b04 hm5
  go_wp2_with fail
  go_loopw [10] (fun i wr => ∃ k : Nat, k ≤ C.length ∧ i = .int .i64 (k : Int) ∧ New w5 wr) (fun i _ => C.length - (intOf i).toNat)
  case atStart => exact ⟨0, Nat.zero_le _, rfl, New.refl _⟩
  case round =>
    obtain ⟨k, hk, rfl, hW⟩ := hrel
    by_cases hlt : k < C.length
    · obtain ⟨a4, rfl, hb4, q4⟩ := (Reads.later H4.out hW).num (i := k) hlt
      obtain ⟨a5, rfl, hb5, q5⟩ := (Reads.later H5.out hW).num (i := k) hlt
      go_wp2
      go_quiet (fail)
      go_wp2
      go_roundw
      case rel => exact ⟨k + 1, by omega, by go_num, below_drewN hW _⟩
      case measure => simp [intOf]; omega
    · obtain rfl : k = C.length := by omega
      have s2 := run_strB (c := c2) (Reads.later R2.out hW)
      have s3 := run_strB (c := c3) (Reads.later R3.out hW)
      have hq : ((bstr b).toList == (bstr b).toList) = true := by simp
      go_wp2
      go_ret
      exact ⟨by simp, New.trans b05 hW⟩

set_option maxHeartbeats 400000 in
theorem runsEncodes_big {w : World} {A : Option Addr} {n c : Nat} (hn : n ≤ 9223372036854775807) (h1 : 400 < n) :
    Calls Try.prog 3 #[.slice A n c] w (SmallPost w) := by
  go_enter Try.func3, Try.ntmps3
  go_wp2_with (go_at_call 10; refine (small10_any w).mono ?_; rintro e w1 ⟨rfl, b1⟩)
  go_ret
  exact ⟨rfl, b1⟩

set_option maxRecDepth 100000 in
open Go.WideShapes Go.ChangeShapes in
theorem runsEncodes_contract {H : Type} {enc : TypeId × Value → H} (W : World) (base : Nat) (args : Array Value) (ds : List (DataW H)) (ps : List MemPlace)
    (hval : ∀ (j : Nat) t v, Try.f3.params[j]? = some t → args[j]? = some v → Value.okWide Try.prog W .any base t v)
    (hA : DataW.TrodAll enc Try.prog W 0 (fun _ => true) true Try.f3.params.toList args.toList ds ps) (hlt : ∀ p ∈ ps, p.block < W.heap.size)
    (hsz : (DataW.weightsEach Try.prog Try.f3.params.toList ds).all (· ≤ reachBytes) = true) :
    Calls Try.prog 3 args W fun e W' => e = .returned (.bool true) ∧ Below W.heap.size W W' := by
  rw [Try.params3] at hA hval hsz
  obtain ⟨v0, d0, rfl, rfl, h0⟩ := trodAll_one hA
  obtain ⟨A_L, c_L, L, rfl, hc_L, hm_L, hr_L, hl_L⟩ := open_W (hval 0 _ _ rfl rfl) h0 hlt (sized_at hsz (j := 0) rfl rfl)
  by_cases hb : 400 < L.length
  · exact runsEncodes_big (by omega) hb
  · exact runsEncodes_walk hr_L hc_L hl_L (by omega)

end Go.Proofs.Ytlelepopdjoedaa
