/- QueryDecodes returns true whatever comes in, and leaves all that was there as it was. -/
import Derived.Test.YtpdjgmhhbdfdcaaLaw24

namespace Go.Proofs.Ytpdjgmhhbdfdcaa
open Go.RowKit Go.Hm

set_option maxHeartbeats 1000000 in
set_option maxRecDepth 100000 in
theorem queryDecodes_walk {w : World} {A : Option Addr} {n c : Nat} {b : List Nat} (h : Reads w w.heap.size 1 A n (nums .u8 b)) (h8 : ∀ x ∈ b, x < 256) (hn : n ≤ 500) (hc : n ≤ c) (hc1 : c ≤ 140737488351232) :
    Calls Try.prog 4 #[.slice A n c] w (SmallPost w) := by
  have HE := Lib.hid (fun (W : World) (hW : New w W) => qdec_any (c := c) (Reads.later h hW) h8 (by omega))
  have HR := Lib.hid (fun (W : World) (hW : New w W) => rqdec_any (c := c) (Reads.later h hW) h8 hc hc1)
  have hl := decQ_len h8
  clear hc hc1 h h8
  generalize decQ b = o at *
  generalize hoi : o.isSome = oi
  generalize hog : o.getD ([], 0, 0) = G
  obtain ⟨l, f, t⟩ := G
  have HO := Lib.hid (And.intro hoi hog)
  rw [hog] at hl
  simp only at hl
  clear hoi hog
  go_enter Try.func4, Try.ntmps4
  go_wp2_with fail
  refine (small24_any w).mono ?_
  rintro e w1 ⟨rfl, b1⟩
  have P1 := Lib.hid (HE.out w1 b1)
  go_wp2_with fail
  refine P1.out.mono ?_
  intro e w2 hh
  obtain ⟨A2, n2, c2, rfl, k2, b2⟩ := hh.u
  rw [HO.out.1, HO.out.2]
  rw [HO.out.2] at k2
  simp only at k2 ⊢
  have b02 := New.trans b1 b2
  have r2 := Reads.over k2.reads (.cells #[.slice A2 n2 c2, .int .i64 f, .int .i64 t] 24)
  have l2 : n2 ≤ 64 := by have := k2.len; rw [ints_length] at this; omega
  obtain ⟨W2, hW2⟩ : ∃ W, W = w2.alloc (.cells #[.slice A2 n2 c2, .int .i64 f, .int .i64 t] 24) := ⟨_, rfl⟩
  have Q2 : Blk W2 w2.heap.size 24 #[.slice A2 n2 c2, .int .i64 f, .int .i64 t] := by rw [hW2]; exact Blk.new _ _ _
  rw [← hW2] at r2
  have bW : New w W2 := by rw [hW2]; exact Below.alloc b02 b02.size _
  have P2 := Lib.hid (HR.out W2 bW)
  rw [hW2] at P2
  clear hh P1 b1 b2 b02 k2
  go_wp2_with fail
  refine P2.out.mono ?_
  intro e w3 hh
  rw [← hW2] at hh
  obtain ⟨A3, n3, c3, rfl, k3, b3⟩ := hh.u
  rw [HO.out.1, HO.out.2]
  rw [HO.out.2] at k3
  simp only at k3 ⊢
  have b03 := New.trans bW b3
  have r2 := Reads.over (Reads.later r2 b3) (.cells #[.slice A3 n3 c3, .int .i64 f, .int .i64 t] 24)
  have r3 := Reads.over k3.reads (.cells #[.slice A3 n3 c3, .int .i64 f, .int .i64 t] 24)
  have Q2 := (Q2.below b3 Q2.lt).alloc (.cells #[.slice A3 n3 c3, .int .i64 f, .int .i64 t] 24)
  obtain ⟨x0, x1, x2⟩ := qcells Q2
  have bW3 : New w (w3.alloc (.cells #[.slice A3 n3 c3, .int .i64 f, .int .i64 t] 24)) := Below.alloc b03 b03.size _
  have P3 := Lib.hid (sameQ_any (c := c2) (c2 := c3) (f := f) (t := t) (f2 := f) (t2 := t) r2 r3 (by omega))
  rw [show decide ((l, f, t) = (l, f, t)) = true by simp] at P3
  clear hh P2 b3 b03 k3 r2 r3 Q2 hW2 bW
  go_wp2_with fail
  refine P3.out.mono ?_
  rintro e w4 ⟨rfl, b4⟩
  go_wp2
  go_ret
  exact ⟨by simp, New.trans bW3 b4⟩

set_option maxHeartbeats 400000 in
theorem queryDecodes_big {w : World} {A : Option Addr} {n c : Nat} (hn : n ≤ 9223372036854775807) (hb : 500 < n) :
    Calls Try.prog 4 #[.slice A n c] w (SmallPost w) := by
  go_enter Try.func4, Try.ntmps4
  go_wp2_with (go_at_call 9; refine (small24_any w).mono ?_; rintro e w1 ⟨rfl, b1⟩)
  go_ret
  exact ⟨rfl, b1⟩

set_option maxRecDepth 100000 in
open Go.WideShapes Go.ChangeShapes in
theorem queryDecodes_contract {H : Type} {enc : TypeId × Value → H} (W : World) (base : Nat) (args : Array Value) (ds : List (DataW H)) (ps : List MemPlace)
    (hval : ∀ (j : Nat) t v, Try.f4.params[j]? = some t → args[j]? = some v → Value.okWide Try.prog W .any base t v)
    (hA : DataW.TrodAll enc Try.prog W 0 (fun _ => true) true Try.f4.params.toList args.toList ds ps) (hlt : ∀ p ∈ ps, p.block < W.heap.size)
    (hsz : (DataW.weightsEach Try.prog Try.f4.params.toList ds).all (· ≤ reachBytes) = true) :
    Calls Try.prog 4 args W fun e W' => e = .returned (.bool true) ∧ Below W.heap.size W W' := by
  rw [Try.params4] at hA hval hsz
  obtain ⟨v0, d0, rfl, rfl, h0⟩ := trodAll_one hA
  obtain ⟨A_b, c_b, b, rfl, hc_b, hm_b, hr_b, hl_b⟩ := open_B (hval 0 _ _ rfl rfl) h0 hlt (sized_at hsz (j := 0) rfl rfl)
  by_cases hb : 500 < b.length
  · exact queryDecodes_big (by omega) hb
  · exact queryDecodes_walk hr_b hl_b (by omega) hc_b hm_b

end Go.Proofs.Ytpdjgmhhbdfdcaa
