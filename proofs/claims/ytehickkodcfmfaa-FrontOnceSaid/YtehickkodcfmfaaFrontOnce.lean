/- FrontOnce returns true whatever comes in, and leaves all that was there as it was. -/
import Derived.Test.YtehickkodcfmfaaSmallF

namespace Go.Proofs.Ytehickkodcfmfaa
open Go.RowKit Go.Hm

set_option maxHeartbeats 1000000 in
set_option maxRecDepth 100000 in
theorem frontOnce_walk {w : World} {A : Option Addr} {n c : Nat} {b : List Nat} {m : Int} (h : Reads w w.heap.size 1 A n (nums .u8 b)) (h8 : ∀ x ∈ b, x < 256) (hn : n ≤ 500) (hm : -9223372036854775808 ≤ m) (hm1 : m ≤ 1000) :
    Calls Try.prog 13 #[.slice A n c, .int .i64 m] w (SmallPost w) := by
  have h3 : decide (1000 < m) = false := by simpa using hm1
  have HE := Lib.hid (fun (W : World) (hW : New w W) => fdec_any (c := c) (m := m) (Reads.later h hW) h8 (by omega) hm (by omega))
  have H8 := decF_8 (n := m) h8
  have HI := fun l => decF_iff (n := m) (l := l) h8
  clear h8 hm1
  generalize decF b m = o at *
  cases o with
  | none =>
    clear H8 HI
    go_enter Try.func13, Try.ntmps13
    go_wp2_with (first
      | (go_at_call 28; refine (small13_any w).mono ?_; rintro e w1 ⟨rfl, b1⟩
         have P1 := Lib.hid (HE.out w1 b1))
      | (go_at_call 34; refine P1.out.mono ?_; rintro e w2 ⟨rfl, b2⟩))
    go_ret
    exact ⟨rfl, New.trans b1 b2⟩
  | some l =>
    obtain ⟨q1, q2⟩ := (HI l).1 rfl
    obtain ⟨p1, p2, p3⟩ := H8
    simp only [Option.getD_some] at p1 p2 p3
    have Q2 := Lib.hid q2
    obtain ⟨k, hk⟩ : ∃ k, k = l.length := ⟨_, rfl⟩
    rw [← hk] at q1 p2
    subst q1
    have HK := Lib.hid hk
    have HP1 := Lib.hid p1
    have HP3 := Lib.hid p3
    clear HI q2 hk p1 p3
    go_enter Try.func13, Try.ntmps13
    go_wp2_with (first
      | (go_at_call 28; refine (small13_any w).mono ?_; rintro e w1 ⟨rfl, b1⟩
         have P1 := Lib.hid (HE.out w1 b1))
      | (go_at_call 34; refine P1.out.mono ?_; rintro e w2 ⟨A2, n2, c2, rfl, k2, b2⟩
         have b02 := New.trans b1 b2
         have l2 := k2.len
         rw [strs_length, ← HK.out] at l2
         subst l2
         have P2 := Lib.hid (fenc_any (c := c2) k2.reads HP1.out (fun s hs => by have := HP3.out s hs; omega) (by omega))
         rw [Q2.out] at P2)
      | (go_at_call 30; refine P2.out.mono ?_; rintro e w3 ⟨A3, n3, c3, rfl, k3, b3⟩
         have b03 := New.trans b02 b3
         have S1 := run_strB (c := c) (Reads.later h b03)
         have S2 := run_strB (c := c3) k3.reads))
    go_ret
    exact ⟨by simp, b03⟩

set_option maxHeartbeats 400000 in
theorem frontOnce_big {w : World} {A : Option Addr} {n c : Nat} {m : Int} (hn : n ≤ 9223372036854775807) (hb : 500 < n ∨ 1000 < m) :
    Calls Try.prog 13 #[.slice A n c, .int .i64 m] w (SmallPost w) := by
  by_cases h1 : 500 < n
  all_goals try (have h3 : 1000 < m := by omega)
  all_goals
    clear hb
    go_enter Try.func13, Try.ntmps13
    go_wp2_with (go_at_call 28; refine (small13_any w).mono ?_; rintro e w1 ⟨rfl, b1⟩)
    go_ret
    exact ⟨rfl, b1⟩

open Go.WideShapes Go.ChangeShapes in
theorem frontOnce_contract {H : Type} {enc : TypeId × Value → H} (W : World) (base : Nat) (args : Array Value) (ds : List (DataW H)) (ps : List MemPlace)
    (hval : ∀ (j : Nat) t v, Try.f13.params[j]? = some t → args[j]? = some v → Value.okWide Try.prog W .any base t v)
    (hA : DataW.TrodAll enc Try.prog W 0 (fun _ => true) true Try.f13.params.toList args.toList ds ps) (hlt : ∀ p ∈ ps, p.block < W.heap.size)
    (hsz : (DataW.weightsEach Try.prog Try.f13.params.toList ds).all (· ≤ reachBytes) = true) :
    Calls Try.prog 13 args W fun e W' => e = .returned (.bool true) ∧ Below W.heap.size W W' := by
  rw [Try.params13] at hA hval hsz
  obtain ⟨v0, v1, d0, d1, p0, p1, rfl, rfl, rfl, h0, h1⟩ := trodAll_two hA
  obtain ⟨A_b, c_b, b, rfl, hc_b, hm_b, hr_b, hl_b⟩ := open_B (hval 0 _ _ rfl rfl) h0 (fun p hp => hlt p (by simp [hp])) (sized_at hsz (j := 0) rfl rfl)
  obtain ⟨m, rfl, wm, wm'⟩ := open_i64 (hval 1 _ _ rfl rfl) h1
  by_cases hb : 500 < b.length ∨ 1000 < m
  · exact frontOnce_big (by omega) hb
  · exact frontOnce_walk hr_b hl_b (by omega) wm (by omega)

end Go.Proofs.Ytehickkodcfmfaa
