/- BitpackPacks returns true whatever comes in, and leaves all that was there as it was. -/
import Derived.Test.YtghfdbnbgkpnaaaLaw05
namespace Go.Proofs.Ytghfdbnbgkpnaaa
open Go.RowKit Go.Hm

set_option maxHeartbeats 1000000 in
theorem bitpackPacks_walk {w : World} {A A2 : Option Addr} {n c n2 c2 : Nat} {L b : List Nat} {x m : Int} (h : Reads w w.heap.size 1 A n (nums .u64 L)) (hL : ∀ x ∈ L, x ≤ 18446744073709551615) (h2 : Reads w w.heap.size 1 A2 n2 (nums .u8 b)) (h8 : ∀ x ∈ b, x < 256)
    (hx : -9223372036854775808 ≤ x) (hx1 : x ≤ 9223372036854775807) (hm : -9223372036854775808 ≤ m) (hm1 : m ≤ 3000) (hn : n ≤ 200) (hn2 : n2 ≤ 300) :
    Calls Try.prog 16 #[.slice A n c, .int .i64 x, .slice A2 n2 c2, .int .i64 m] w (SmallPost w) := by
  generalize hO : packO L x = O
  generalize hU : unpackO b x m = U
  have HO := Lib.hid hO
  have HU := Lib.hid hU
  clear hO hU
  have h3 : decide (3000 < m) = false := by simpa using hm1
  go_enter Try.func16, Try.ntmps16
  go_wp2_with (first
    | (go_at_call 50; refine (small05_any w).mono ?_; rintro e w1 ⟨rfl, b1⟩
       have P1 := Lib.hid (pack_any (c := c) x (Reads.later h b1) hL (by omega) hx hx1)
       rw [HO.out] at P1)
    | (go_at_call 55; refine P1.out.mono ?_; intro e w2 hh; obtain ⟨A3, n3, c3, rfl, k3, b2⟩ := OptB.u hh; clear hh
       have b02 := b1.trans (b2.mono b1.size)
       have P2 := Lib.hid (rpack_any (c := c) x (Reads.later h b02) hL (by omega) hx hx1)
       rw [HO.out] at P2)
    | (go_at_call 56; refine P2.out.mono ?_; intro e w3 hh; obtain ⟨A4, n4, c4, rfl, k4, b3⟩ := OptB.u hh; clear hh
       have b03 := b02.trans (b3.mono b02.size)
       have r3 := Reads.later k3.reads b3
       have P3 := Lib.hid (unpack_any (c := c2) x m (Reads.later h2 b03) h8 (by omega) hx hx1 hm (by omega))
       rw [HU.out] at P3)
    | (go_at_call 57; refine P3.out.mono ?_; intro e w4 hh; obtain ⟨A5, n5, c5, rfl, k5, b4⟩ := OptW.u hh; clear hh
       have b04 := b03.trans (b4.mono b03.size)
       have r3 := Reads.later r3 b4
       have r4 := Reads.later k4.reads b4
       have P4 := Lib.hid (runpack_any (c := c2) x m (Reads.later h2 b04) h8 (by omega) hx hx1 hm (by omega))
       rw [HU.out] at P4)
    | (go_at_call 58; refine P4.out.mono ?_; intro e w5 hh; obtain ⟨A6, n6, c6, rfl, k6, b5⟩ := OptW.u hh; clear hh
       have b05 := b04.trans (b5.mono b04.size)
       have S1 := run_strB (c := c3) (Reads.later r3 b5)
       have S2 := run_strB (c := c4) (Reads.later r4 b5)
       have l5 := k5.cap
       have l6 := k6.cap
       have r5 := Reads.later k5.reads b5
       have r6 := k6.reads)
    | (go_at_call 59; refine (same_any r5 r6 (by unfold maxLen at l5; omega) (by unfold maxLen at l6; omega)).mono ?_; rintro e w6 ⟨rfl, b6⟩))
  all_goals go_outline
  go_ret
  exact ⟨by simp, b05.trans (b6.mono b05.size)⟩

set_option maxHeartbeats 400000 in
theorem bitpackPacks_big {w : World} {A A2 : Option Addr} {n c n2 c2 : Nat} {x m : Int} (hn : n ≤ 9223372036854775807) (hn2 : n2 ≤ 9223372036854775807) (hb : 200 < n ∨ 300 < n2 ∨ 3000 < m) :
    Calls Try.prog 16 #[.slice A n c, .int .i64 x, .slice A2 n2 c2, .int .i64 m] w (SmallPost w) := by
  by_cases h1 : 200 < n
  all_goals try (by_cases h2 : 300 < n2)
  all_goals try (have h3 : 3000 < m := by omega)
  all_goals
    clear hb
    go_enter Try.func16, Try.ntmps16
    go_wp2_with (go_at_call 50; refine (small05_any w).mono ?_; rintro e w1 ⟨rfl, b1⟩)
    go_ret
    exact ⟨rfl, b1⟩

open Go.WideShapes Go.ChangeShapes in
theorem bitpackPacks_contract {H : Type} {enc : TypeId × Value → H} (W : World) (base : Nat) (args : Array Value) (ds : List (DataW H)) (ps : List MemPlace)
    (hval : ∀ (j : Nat) t v, Try.f16.params[j]? = some t → args[j]? = some v → Value.okWide Try.prog W .any base t v)
    (hA : DataW.TrodAll enc Try.prog W 0 (fun _ => true) true Try.f16.params.toList args.toList ds ps) (hlt : ∀ p ∈ ps, p.block < W.heap.size)
    (hsz : (DataW.weightsEach Try.prog Try.f16.params.toList ds).all (· ≤ reachBytes) = true) :
    Calls Try.prog 16 args W fun e W' => e = .returned (.bool true) ∧ Below W.heap.size W W' := by
  rw [Try.params16] at hA hval hsz
  obtain ⟨v0, v1, v2, v3, d0, d1, d2, d3, p0, p1, p2, p3, rfl, rfl, rfl, h0, h1, h2, h3⟩ := trodAll_four hA
  obtain ⟨A_L, c_L, L, rfl, hc_L, hm_L, hr_L, hl_L⟩ := open_W (hval 0 _ _ rfl rfl) h0 (fun p hp => hlt p (by simp [hp])) (sized_at hsz (j := 0) rfl rfl)
  obtain ⟨x, rfl, wx, wx'⟩ := open_i64 (hval 1 _ _ rfl rfl) h1
  obtain ⟨A_b, c_b, b, rfl, hc_b, hm_b, hr_b, hl_b⟩ := open_B (hval 2 _ _ rfl rfl) h2 (fun p hp => hlt p (by simp [hp])) (sized_at hsz (j := 2) rfl rfl)
  obtain ⟨m, rfl, wm, wm'⟩ := open_i64 (hval 3 _ _ rfl rfl) h3
  by_cases hb : 200 < L.length ∨ 300 < b.length ∨ 3000 < m
  · exact bitpackPacks_big (by omega) (by omega) hb
  · exact bitpackPacks_walk hr_L hl_L hr_b hl_b wx wx' wm (by omega) (by omega) (by omega)
end Go.Proofs.Ytghfdbnbgkpnaaa
