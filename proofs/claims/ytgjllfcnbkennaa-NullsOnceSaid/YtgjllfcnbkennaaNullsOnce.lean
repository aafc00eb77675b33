/- NullsOnce returns true whatever comes in, and leaves all that was there as it was. -/
import Derived.Test.YtgjllfcnbkennaaLaw08
import Derived.Test.YtgjllfcnbkennaaTrod

namespace Go.Proofs.Ytgjllfcnbkennaa
open Go.RowKit Go.Hm
theorem joinO_some {b : List Nat} {n : Int} {r x : List CellS} (h8 : ∀ y ∈ b, y < 256) (h : joinO (unpackO b 1 n) r = some x) : splitB x = b ∧ valsN x = r ∧ (x.length : Int) = n ∧ x.length ≤ 65536 := by
  cases hU : unpackO b 1 n with
  | none => rw [hU] at h; cases h
  | some m =>
    rw [hU] at h
    obtain ⟨q1, q2, q3, q4⟩ := unpack1 h8 hU
    change (if m.sum = r.length then joinL m r else none) = some x at h
    split at h
    · rename_i hs
      obtain ⟨a1, a2, a3⟩ := split_join m r x q3 hs h
      have hl : x.length ≤ 65536 := by omega
      have := split_pack hl
      rw [a1, q1] at this
      exact ⟨by injection this with this; exact this.symm, a2, by omega, hl⟩
    · cases h
set_option maxHeartbeats 2000000 in
set_option maxRecDepth 100000 in
theorem nullsOnce_walk {w : World} {A : Option Addr} {mm c : Nat} {b : List Nat} {n : Int} {A2 : Option Addr} {nr c2 : Nat} {r : List CellS} (h : Reads w w.heap.size 1 A mm (nums .u8 b)) (h8 : ∀ x ∈ b, x < 256) (hm : mm ≤ 9223372036854775807) (hn0 : -9223372036854775808 ≤ n) (hn : n ≤ 9223372036854775807)
    (h2 : Reads w w.heap.size 5 A2 nr (recs cellV r)) (hL : ∀ y ∈ r, CellFine y) (hnr : nr ≤ 4611686018427387903) :
    Calls Try.prog 5 #[.slice A mm c, .slice A2 nr c2, .int .i64 n] w (SmallPost w) := by
  obtain rfl := h2.lenCell
  have F := Lib.hid (fun (W : World) (hW : New w W) => few08_any (c := c2) (Reads.later h2 hW) hL hnr)
  have P1 := Lib.hid (fun (W : World) (hW : New w W) => join_any (c := c) (c2 := c2) (Reads.later h hW) h8 hm hn0 hn (Reads.later h2 hW) (by omega))
  have HJ := Lib.hid (fun (x : List CellS) (hh : joinO (unpackO b 1 n) r = some x) => joinO_some h8 hh)
  have RB := Lib.hid (fun (W : World) (hW : New w W) => run_strB (c := c) (Reads.later h hW))
  have RR := Lib.hid (fun (W : World) (hW : New w W) => Reads.later h2 hW)
  clear h h2
  generalize joinO (unpackO b 1 n) r = J at *
  go_enter Try.func5, Try.ntmps5
  go_wp2_with fail
  refine (small08_any w).mono ?_
  rintro e w1 ⟨rfl, b1⟩
  go_wp2_with fail
  refine (F.out w1 b1).mono ?_
  rintro e w1' ⟨bb, rfl, hf, rfl⟩
  cases bb with
  | false =>
    go_wp2
    go_ret
    exact ⟨rfl, b1⟩
  | true =>
    have hr3 := hf rfl
    clear hf F
    by_cases hb1 : 100 < mm
    · have t1 : decide (100 < (mm : Int)) = true := by simp; omega
      go_wp2
      go_ret
      exact ⟨rfl, b1⟩
    have t1 : decide (100 < (mm : Int)) = false := by simp; omega
    by_cases hb2 : 900 < n
    · have t2 : decide (900 < n) = true := by simpa using hb2
      go_wp2
      go_ret
      exact ⟨rfl, b1⟩
    have t2 : decide (900 < n) = false := by simpa using hb2
    have P1 := Lib.hid (P1.out w1 b1)
    go_wp2_with fail
    refine P1.out.mono ?_
    clear P1 t1 t2
    cases J with
    | none =>
      rintro e w2 ⟨rfl, b2⟩
      go_wp2
      go_ret
      exact ⟨rfl, New.trans b1 b2⟩
    | some x =>
      rintro e w2 ⟨A3, c3, rfl, u3, b2⟩
      obtain ⟨a1, a2, a3, a4⟩ := HJ.out x rfl
      subst a3
      have b02 := New.trans b1 b2
      have P2 := split_any (c := c3) (Reads.of_own u3) a4
      have P2 := Lib.hid P2
      have HA := Lib.hid (And.intro a1 a2)
      clear HJ u3 a1 a2
      go_wp2_with fail
      refine P2.out.mono ?_
      rintro e w3 ⟨A4, n4, c4, A5, n5, c5, rfl, o4, u4, b3⟩
      rw [HA.out.1] at o4
      rw [HA.out.2] at u4
      have b03 := New.trans b02 b3
      obtain rfl : n5 = r.length := (Reads.of_own u4).lenCell
      have X1 := run_strB (c := c4) o4.reads
      have X2 := RB.out w3 b03
      have P3 := rcells_any (c := c5) (c2 := c2) (Reads.of_own u4) (RR.out w3 b03) (by omega) (by omega) (fun x hx => (hL x hx).1.2) (fun x hx => (hL x hx).1.2)
      rw [decide_eq_true rfl] at P3
      have P3 := Lib.hid P3
      clear P2 o4 u4
      go_wp2_with fail
      refine P3.out.mono ?_
      rintro e w4 ⟨rfl, q, rfl⟩
      clear X1 X2
      go_wp2
      go_ret
      exact ⟨by simp, New.trans b03 (new_drewN _ _)⟩

set_option maxRecDepth 100000 in
open Go.WideShapes Go.ChangeShapes in
theorem nullsOnce_contract {H : Type} {enc : TypeId × Value → H} (W : World) (base : Nat) (args : Array Value) (ds : List (DataW H)) (ps : List MemPlace)
    (hval : ∀ (j : Nat) t v, Try.f5.params[j]? = some t → args[j]? = some v → Value.okWide Try.prog W .any base t v)
    (hA : DataW.TrodAll enc Try.prog W 0 (fun _ => true) true Try.f5.params.toList args.toList ds ps) (hlt : ∀ p ∈ ps, p.block < W.heap.size)
    (hsz : (DataW.weightsEach Try.prog Try.f5.params.toList ds).all (· ≤ reachBytes) = true) :
    Calls Try.prog 5 args W fun e W' => e = .returned (.bool true) ∧ Below W.heap.size W W' := by
  rw [Try.params5] at hA hval hsz
  obtain ⟨v0, v1, v2, d0, d1, d2, p0, p1, p2, rfl, rfl, rfl, h0, h1, h2⟩ := trodAll_three hA
  obtain ⟨A_b, c_b, b, rfl, hc_b, hm_b, hr_b, hl_b⟩ := open_B (hval 0 _ _ rfl rfl) h0 (fun p hp => hlt p (by simp [hp])) (sized_at hsz (j := 0) rfl rfl)
  -- l: v1 d1 p1 h1, hval 1
  obtain ⟨n, rfl, wn, wn'⟩ := open_i64 (hval 2 _ _ rfl rfl) h2
  obtain ⟨A2, c2, r, rfl, hr, hf, hc2, hl2⟩ := open_Cells (hval 1 _ _ rfl rfl) h1 (fun p hp => hlt p (by simp [hp])) (sized_at hsz (j := 1) rfl rfl)
  exact nullsOnce_walk hr_b hl_b (by omega) (by omega) (by omega) hr hf (by omega)

end Go.Proofs.Ytgjllfcnbkennaa
