/- RunsBack returns true whatever comes in, and leaves all that was there as it was. -/
import Derived.Test.YtlelepopdjoedaaLaw10

namespace Go.Proofs.Ytlelepopdjoedaa
open Go.RowKit Go.Hm

set_option maxHeartbeats 1000000 in
set_option maxRecDepth 100000 in
theorem runsBack_walk {w : World} {A : Option Addr} {n c : Nat} {L : List Nat} (h : Reads w w.heap.size 1 A n (nums .u64 L)) (hc : n ≤ c) (hL : ∀ x ∈ L, x ≤ 18446744073709551615) (hn : n ≤ 400) :
    Calls Try.prog 5 #[.slice A n c] w (SmallPost w) := by
  have HE := Lib.hid (fun (W : World) (hW : New w W) => enc_all (c := c) (Reads.later h hW) hc hL (by omega))
  have H8 := Lib.hid (encL_byte hL)
  have HB := Lib.hid (encL_len hL (by have := h.len; omega))
  have hln : n = L.length := h.len
  have HI := Lib.hid (fun o (hI : IsDec (encL L) (n : Int) o) => isDec_is (l := L) hI (by omega) (by omega) hL rfl)
  have HB : Hid ((encL L).length ≤ 240000000) := Lib.hid (by have := HB.out; omega)
  clear hL hln
  generalize encL L = b at *
  go_enter Try.func5, Try.ntmps5
  go_wp2_with fail
  refine (small10_any w).mono ?_
  rintro e w1 ⟨rfl, b1⟩
  go_wp2_with fail
  refine (HE.out w1 b1).mono ?_
  rintro e w2 ⟨A2, n2, c2, rfl, k2, b2⟩
  have b02 := New.trans b1 b2
  have D := Lib.hid (decode_all (c := c2) (n := (n : Int)) k2.reads H8.out (by have := HB.out; have l := k2.len; rw [nums_length] at l; omega))
  clear k2
  go_wp2_with fail
  refine D.out.mono ?_
  intro e w3 hh
  obtain ⟨p, A4, n4, c4, i4, rfl, q4, k4, b3⟩ := hh.u
  obtain rfl := HI.out p i4
  have b03 := New.trans b02 b3
  simp only [Option.getD_some, Option.isSome_some] at k4 ⊢
  have Q := Lib.hid (same_any (c := c4) (c2 := c) k4.reads (Reads.later h b03) (by omega) (by omega))
  rw [decide_eq_true rfl] at Q
  clear hh HE HI i4 k4 h D
  go_wp2_with (go_at_call 17; refine Q.out.mono ?_; rintro e w4 ⟨rfl, b4⟩)
  go_ret
  exact ⟨by simp, New.trans b03 b4⟩

set_option maxHeartbeats 400000 in
theorem runsBack_big {w : World} {A : Option Addr} {n c : Nat} (hn : n ≤ 9223372036854775807) (h1 : 400 < n) :
    Calls Try.prog 5 #[.slice A n c] w (SmallPost w) := by
  go_enter Try.func5, Try.ntmps5
  go_wp2_with (go_at_call 10; refine (small10_any w).mono ?_; rintro e w1 ⟨rfl, b1⟩)
  go_ret
  exact ⟨rfl, b1⟩

set_option maxRecDepth 100000 in
open Go.WideShapes Go.ChangeShapes in
theorem runsBack_contract {H : Type} {enc : TypeId × Value → H} (W : World) (base : Nat) (args : Array Value) (ds : List (DataW H)) (ps : List MemPlace)
    (hval : ∀ (j : Nat) t v, Try.f5.params[j]? = some t → args[j]? = some v → Value.okWide Try.prog W .any base t v)
    (hA : DataW.TrodAll enc Try.prog W 0 (fun _ => true) true Try.f5.params.toList args.toList ds ps) (hlt : ∀ p ∈ ps, p.block < W.heap.size)
    (hsz : (DataW.weightsEach Try.prog Try.f5.params.toList ds).all (· ≤ reachBytes) = true) :
    Calls Try.prog 5 args W fun e W' => e = .returned (.bool true) ∧ Below W.heap.size W W' := by
  rw [Try.params5] at hA hval hsz
  obtain ⟨v0, d0, rfl, rfl, h0⟩ := trodAll_one hA
  obtain ⟨A_L, c_L, L, rfl, hc_L, hm_L, hr_L, hl_L⟩ := open_W (hval 0 _ _ rfl rfl) h0 hlt (sized_at hsz (j := 0) rfl rfl)
  by_cases hb : 400 < L.length
  · exact runsBack_big (by omega) hb
  · exact runsBack_walk hr_L hc_L hl_L (by omega)

end Go.Proofs.Ytlelepopdjoedaa
