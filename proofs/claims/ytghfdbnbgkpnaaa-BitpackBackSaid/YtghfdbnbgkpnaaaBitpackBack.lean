/- BitpackBack returns true whatever comes in, and leaves all that was there as it was. -/
import Derived.Test.YtghfdbnbgkpnaaaLaw05
namespace Go.Proofs.Ytghfdbnbgkpnaaa
open Go.RowKit Go.Hm

set_option maxHeartbeats 1000000 in
theorem bitpackBack_walk {w : World} {A : Option Addr} {n c : Nat} {L : List Nat} {m : Nat} (h : Reads w w.heap.size 1 A n (nums .u64 L)) (hL : ∀ x ∈ L, x ≤ 18446744073709551615) (hm : m ≤ 64) (hn : n ≤ 200) :
    Calls Try.prog 17 #[.slice A n c, .int .i64 (m : Int)] w (SmallPost w) := by
  have hw := wid_le L hL
  obtain ⟨x, hx⟩ : ∃ x, x = wid L + m := ⟨_, rfl⟩
  have hxI : (wid L : Int) + (m : Int) = (x : Int) := by omega
  have hln := h.len
  have hx128 : x ≤ 128 := by omega
  have t1 : decide (200 < (n : Int)) = false := by simp; omega
  have t2 : decide ((m : Int) < 0) = false := by simp
  have t3 : decide (64 < (m : Int)) = false := by simp; omega
  by_cases h64 : x ≤ 64
  · have HP := Lib.hid (packO_some L x h64 (by omega) (by omega))
    have HU := Lib.hid (unpack_pack L x h64 (by omega) (by omega) hL)
    have hl8 := low_lt (pk x L) ((x * L.length + 7) / 8)
    have hll := low_len (pk x L) ((x * L.length + 7) / 8)
    have HB := Lib.hid (nby_nat x L.length h64 (by omega))
    have hp : x * L.length ≤ 64 * 200 := Nat.mul_le_mul h64 (by omega)
    have hs : (x * L.length + 7) / 8 ≤ 20000 := by omega
    generalize (x * L.length + 7) / 8 = s at *
    generalize low (pk x L) s = b at *
    have t4 : decide ((x : Int) ≤ 64) = true := by simp; omega
    have Hln := Lib.hid hln
    have Hll := Lib.hid hll
    clear hx hln hll hw
    go_enter Try.func17, Try.ntmps17
    go_wp2_with (first
      | (go_at_call 50; refine (small05_any w).mono ?_; rintro e w1 ⟨rfl, b1⟩
         have P1 := Lib.hid (pack_any (c := c) (x : Int) (Reads.later h b1) hL (by omega) (by omega) (by omega))
         rw [HP.out] at P1)
      | (go_at_call 51; refine (width_any (Reads.later h b1) hL (by omega)).mono ?_; rintro e w7 ⟨rfl, rfl⟩)
      | (go_at_call 55; refine P1.out.mono ?_; intro e w2 hh; obtain ⟨A3, n3, c3, rfl, k3, b2⟩ := OptB.u hh; clear hh
         have b02 := b1.trans (b2.mono b1.size)
         simp only [Option.getD_some] at k3
         have l3 := k3.len
         rw [nums_length] at l3
         have q3 : n3 ≤ 20000 := by have := Hll.out; omega
         have L3 := Lib.hid l3
         clear l3
         have r3 := k3.reads
         have P3 := Lib.hid (unpack_any (c := c3) (x : Int) (n : Int) r3 hl8 (by omega) (by omega) (by omega) (by omega) (by omega))
         rw [show ((n : Nat) : Int) = (L.length : Int) by rw [Hln.out], HU.out, ← Hln.out] at P3)
      | (go_at_call 57; refine P3.out.mono ?_; intro e w4 hh; obtain ⟨A5, n5, c5, rfl, k5, b4⟩ := OptW.u hh; clear hh
         have b04 := b02.trans (b4.mono b02.size)
         simp only [Option.getD_some] at k5
         have l5 := k5.len
         rw [nums_length, ← Hln.out] at l5
         subst l5
         have Q6 := Lib.hid (same_any (c := c5) (c2 := c) k5.reads (Reads.later h b04) (by omega) (by omega)))
      | (go_at_call 59; refine Q6.out.mono ?_; rintro e w6 ⟨rfl, b6⟩
         have b06 := b04.trans (b6.mono b04.size)
         have B7 := Lib.hid (bytes_any (x : Int) (n5 : Int) w6 (by omega) (by omega) (by omega) (by omega))
         rw [show ((n5 : Nat) : Int) = (L.length : Int) by rw [Hln.out], HB.out, ← Hln.out, ← Hll.out, ← L3.out] at B7)
      | (go_at_call 53; refine B7.out.mono ?_; rintro e w7 ⟨rfl, rfl⟩))
    go_ret
    exact ⟨by simp, b06⟩
  · have hO : packO L (x : Int) = none := by unfold packO; rw [if_neg (by omega)]
    have HO := Lib.hid hO
    have t4 : decide ((x : Int) ≤ 64) = false := by simp; omega
    clear hO hx hln h64
    go_enter Try.func17, Try.ntmps17
    go_wp2_with (first
      | (go_at_call 50; refine (small05_any w).mono ?_; rintro e w1 ⟨rfl, b1⟩
         have P1 := Lib.hid (pack_any (c := c) (x : Int) (Reads.later h b1) hL (by omega) (by omega) (by omega))
         rw [HO.out] at P1)
      | (go_at_call 51; refine (width_any (Reads.later h b1) hL (by omega)).mono ?_; rintro e w7 ⟨rfl, rfl⟩)
      | (go_at_call 55; refine P1.out.mono ?_; rintro e w2 ⟨rfl, b2⟩))
    go_ret
    exact ⟨rfl, b1.trans (b2.mono b1.size)⟩

set_option maxHeartbeats 400000 in
theorem bitpackBack_big {w : World} {A : Option Addr} {n c : Nat} {m : Int} (hn : n ≤ 9223372036854775807) (hb : 200 < n ∨ m < 0 ∨ 64 < m) :
    Calls Try.prog 17 #[.slice A n c, .int .i64 m] w (SmallPost w) := by
  by_cases h1 : 200 < n
  all_goals try (by_cases h2 : m < 0)
  all_goals try (have h3 : 64 < m := by omega)
  all_goals
    clear hb
    go_enter Try.func17, Try.ntmps17
    go_wp2_with (go_at_call 50; refine (small05_any w).mono ?_; rintro e w1 ⟨rfl, b1⟩)
    go_ret
    exact ⟨rfl, b1⟩

open Go.WideShapes Go.ChangeShapes in
theorem bitpackBack_contract {H : Type} {enc : TypeId × Value → H} (W : World) (base : Nat) (args : Array Value) (ds : List (DataW H)) (ps : List MemPlace)
    (hval : ∀ (j : Nat) t v, Try.f17.params[j]? = some t → args[j]? = some v → Value.okWide Try.prog W .any base t v)
    (hA : DataW.TrodAll enc Try.prog W 0 (fun _ => true) true Try.f17.params.toList args.toList ds ps) (hlt : ∀ p ∈ ps, p.block < W.heap.size)
    (hsz : (DataW.weightsEach Try.prog Try.f17.params.toList ds).all (· ≤ reachBytes) = true) :
    Calls Try.prog 17 args W fun e W' => e = .returned (.bool true) ∧ Below W.heap.size W W' := by
  rw [Try.params17] at hA hval hsz
  obtain ⟨v0, v1, d0, d1, p0, p1, rfl, rfl, rfl, h0, h1⟩ := trodAll_two hA
  obtain ⟨A_L, c_L, L, rfl, hc_L, hm_L, hr_L, hl_L⟩ := open_W (hval 0 _ _ rfl rfl) h0 (fun p hp => hlt p (by simp [hp])) (sized_at hsz (j := 0) rfl rfl)
  obtain ⟨m, rfl, wm, wm'⟩ := open_i64 (hval 1 _ _ rfl rfl) h1
  by_cases hb : 200 < L.length ∨ m < 0 ∨ 64 < m
  · exact bitpackBack_big (by omega) hb
  · obtain ⟨m, rfl⟩ := Int.eq_ofNat_of_zero_le (show 0 ≤ m by omega)
    exact bitpackBack_walk hr_L hl_L (by omega) (by omega)
end Go.Proofs.Ytghfdbnbgkpnaaa
