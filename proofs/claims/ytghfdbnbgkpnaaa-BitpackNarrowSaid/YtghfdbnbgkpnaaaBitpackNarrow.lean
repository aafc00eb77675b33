/- BitpackNarrow returns true whatever comes in, and leaves all that was there as it was. -/
import Derived.Test.YtghfdbnbgkpnaaaLaw05
namespace Go.Proofs.Ytghfdbnbgkpnaaa
open Go.RowKit Go.Hm

set_option maxHeartbeats 1000000 in
theorem bitpackNarrow_walk {w : World} {A : Option Addr} {n c : Nat} {L : List Nat} (h : Reads w w.heap.size 1 A n (nums .u64 L)) (hL : ∀ x ∈ L, x ≤ 18446744073709551615) (hn : n ≤ 200) :
    Calls Try.prog 19 #[.slice A n c] w (SmallPost w) := by
  have hw := wid_le L hL
  have hO : packO L ((wid L : Int) - 1) = none := by unfold packO; rw [if_neg (by omega)]
  have HO := Lib.hid hO
  clear hO
  go_enter Try.func19, Try.ntmps19
  go_wp2_with (first
    | (go_at_call 50; refine (small05_any w).mono ?_; rintro e w1 ⟨rfl, b1⟩
       have P1 := Lib.hid (pack_any (c := c) ((wid L : Int) - 1) (Reads.later h b1) hL (by omega) (by omega) (by omega))
       rw [HO.out] at P1)
    | (go_at_call 51; refine (width_any (Reads.later h b1) hL (by omega)).mono ?_; rintro e w7 ⟨rfl, rfl⟩)
    | (go_at_call 55; refine P1.out.mono ?_; rintro e w2 ⟨rfl, b2⟩))
  go_ret
  exact ⟨rfl, b1.trans (b2.mono b1.size)⟩

set_option maxHeartbeats 400000 in
theorem bitpackNarrow_big {w : World} {A : Option Addr} {n c : Nat} (hn : n ≤ 9223372036854775807) (h1 : 200 < n) :
    Calls Try.prog 19 #[.slice A n c] w (SmallPost w) := by
  go_enter Try.func19, Try.ntmps19
  go_wp2_with (go_at_call 50; refine (small05_any w).mono ?_; rintro e w1 ⟨rfl, b1⟩)
  go_ret
  exact ⟨rfl, b1⟩

open Go.WideShapes Go.ChangeShapes in
theorem bitpackNarrow_contract {H : Type} {enc : TypeId × Value → H} (W : World) (base : Nat) (args : Array Value) (ds : List (DataW H)) (ps : List MemPlace)
    (hval : ∀ (j : Nat) t v, Try.f19.params[j]? = some t → args[j]? = some v → Value.okWide Try.prog W .any base t v)
    (hA : DataW.TrodAll enc Try.prog W 0 (fun _ => true) true Try.f19.params.toList args.toList ds ps) (hlt : ∀ p ∈ ps, p.block < W.heap.size)
    (hsz : (DataW.weightsEach Try.prog Try.f19.params.toList ds).all (· ≤ reachBytes) = true) :
    Calls Try.prog 19 args W fun e W' => e = .returned (.bool true) ∧ Below W.heap.size W W' := by
  rw [Try.params19] at hA hval hsz
  obtain ⟨v0, d0, rfl, rfl, h0⟩ := trodAll_one hA
  obtain ⟨A_L, c_L, L, rfl, hc_L, hm_L, hr_L, hl_L⟩ := open_W (hval 0 _ _ rfl rfl) h0 hlt (sized_at hsz (j := 0) rfl rfl)
  by_cases hb : 200 < L.length
  · exact bitpackNarrow_big (by omega) hb
  · exact bitpackNarrow_walk hr_L hl_L (by omega)
end Go.Proofs.Ytghfdbnbgkpnaaa
