/- RunsApart returns true whatever comes in, and leaves all that was there as it was. -/
import Derived.Test.YtlelepopdjoedaaLaw10
import Derived.Test.YtlelepopdjoedaaUpT

namespace Go.Proofs.Ytlelepopdjoedaa
open Go.RowKit Go.Hm

set_option maxHeartbeats 1000000 in
set_option maxRecDepth 100000 in
theorem runsApart_walk {w : World} {A A' : Option Addr} {n c n' c' : Nat} {L K : List Nat} (h : Reads w w.heap.size 1 A n (nums .u64 L)) (k : Reads w w.heap.size 1 A' n' (nums .u64 K)) (hc : n ≤ c) (hc' : n' ≤ c') (hL : ∀ x ∈ L, x ≤ 18446744073709551615) (hK : ∀ x ∈ K, x ≤ 18446744073709551615) (hn : n ≤ 300) (hn' : n' ≤ 300) :
    Calls Try.prog 9 #[.slice A n c, .slice A' n' c'] w (SmallPost w) := by
  have HE := Lib.hid (fun (W : World) (hW : New w W) => enc_all (c := c) (Reads.later h hW) hc hL (by omega))
  have HF := Lib.hid (fun (W : World) (hW : New w W) => enc_all (c := c') (Reads.later k hW) hc' hK (by omega))
  have HS := Lib.hid (fun (W : World) (hW : New w W) => same_any (c := c) (c2 := c') (Reads.later h hW) (Reads.later k hW) (by omega) (by omega))
  have e1 : ((bstr (encL L)).toList == (bstr (encL K)).toList) = decide (L = K) := by
    rw [bstr_beq (encL_byte hL) (encL_byte hK), decide_eq_decide]
    exact ⟨encL_inj (by have := h.len; omega) (by have := k.len; omega) hL hK, fun e => by rw [e]⟩
  clear h k hL hK hc hc'
  generalize encL L = b at *
  generalize encL K = d at *
  generalize decide (L = K) = q at *
  go_enter Try.func9, Try.ntmps9
  go_wp2_with fail
  refine (small10_any w).mono ?_
  rintro e w1 ⟨rfl, b1⟩
  go_wp2_with fail
  refine (HE.out w1 b1).mono ?_
  rintro e w2 ⟨A2, n2, c2, rfl, k2, b2⟩
  have b02 := New.trans b1 b2
  go_wp2_with fail
  refine (HF.out w2 b02).mono ?_
  rintro e w3 ⟨A3, n3, c3, rfl, k3, b3⟩
  have b03 := New.trans b02 b3
  have r2 := Reads.later k2.reads b3
  have r3 := k3.reads
  clear HE HF k2 k3
  go_wp2_with fail
  refine wp_region_up New [(true, 0), (true, 1), (true, 2), (true, 3), (true, 4), (true, 5), (true, 6), (true, 7), (true, 8), (true, 9), (true, 10), (true, 11), (true, 12), (true, 13), (true, 14), (false, 15), (true, 16), (true, 17), (true, 18)]
    New.refl New.trans (by kernel_rfl) (by kernel_rfl) (by kernel_rfl) (by kernel_rfl) ?_
  have hU := New.drew w3
  repeat (first
    | (refine up_call rfl rfl (fun K hK => ?_); go_simp
       (with_reducible refine (HS.out _ (New.trans b03 hU)).mono ?_)
       rintro e w9 ⟨rfl, b9⟩
       refine hK _ _ b9 ?_
       clear hK
       replace hU := New.trans hU b9)
    | (refine up_skip rfl rfl ?_; simp only [Act.put, List.setIfInBounds_toArray, List.set_cons_zero, List.set_cons_succ])
    | (refine up_str elB.ht (by kernel_rfl) (by kernel_rfl) rfl rfl rfl r2 hU ?_; simp only [Act.put, List.setIfInBounds_toArray, List.set_cons_zero, List.set_cons_succ])
    | (refine up_str elB.ht (by kernel_rfl) (by kernel_rfl) rfl rfl rfl r3 hU ?_; simp only [Act.put, List.setIfInBounds_toArray, List.set_cons_zero, List.set_cons_succ])
    | (refine up_quiet rfl rfl (v := ?_) (fun W hW => ?_) ?_; rotate_left; (go_simp <;> with_reducible rfl); simp only [Act.put, List.setIfInBounds_toArray, List.set_cons_zero, List.set_cons_succ]))
  refine up_nil ?_
  go_wp2
  go_ret
  exact ⟨by simp, New.trans b03 hU⟩

set_option maxHeartbeats 400000 in
theorem runsApart_big {w : World} {A A' : Option Addr} {n c n' c' : Nat} (hn : n ≤ 9223372036854775807) (hn' : n' ≤ 9223372036854775807) (hb : 300 < n ∨ 300 < n') :
    Calls Try.prog 9 #[.slice A n c, .slice A' n' c'] w (SmallPost w) := by
  by_cases h1 : 300 < n
  all_goals try (have h3 : 300 < n' := by omega)
  all_goals
    clear hb
    go_enter Try.func9, Try.ntmps9
    go_wp2_with (go_at_call 10; refine (small10_any w).mono ?_; rintro e w1 ⟨rfl, b1⟩)
    go_ret
    exact ⟨rfl, b1⟩

set_option maxRecDepth 100000 in
open Go.WideShapes Go.ChangeShapes in
theorem runsApart_contract {H : Type} {enc : TypeId × Value → H} (W : World) (base : Nat) (args : Array Value) (ds : List (DataW H)) (ps : List MemPlace)
    (hval : ∀ (j : Nat) t v, Try.f9.params[j]? = some t → args[j]? = some v → Value.okWide Try.prog W .any base t v)
    (hA : DataW.TrodAll enc Try.prog W 0 (fun _ => true) true Try.f9.params.toList args.toList ds ps) (hlt : ∀ p ∈ ps, p.block < W.heap.size)
    (hsz : (DataW.weightsEach Try.prog Try.f9.params.toList ds).all (· ≤ reachBytes) = true) :
    Calls Try.prog 9 args W fun e W' => e = .returned (.bool true) ∧ Below W.heap.size W W' := by
  rw [Try.params9] at hA hval hsz
  obtain ⟨v0, v1, d0, d1, p0, p1, rfl, rfl, rfl, h0, h1⟩ := trodAll_two hA
  obtain ⟨A_a, c_a, a, rfl, hc_a, hm_a, hr_a, hl_a⟩ := open_W (hval 0 _ _ rfl rfl) h0 (fun p hp => hlt p (by simp [hp])) (sized_at hsz (j := 0) rfl rfl)
  obtain ⟨A_b, c_b, b, rfl, hc_b, hm_b, hr_b, hl_b⟩ := open_W (hval 1 _ _ rfl rfl) h1 (fun p hp => hlt p (by simp [hp])) (sized_at hsz (j := 1) rfl rfl)
  by_cases hb : 300 < a.length ∨ 300 < b.length
  · exact runsApart_big (by omega) (by omega) hb
  · exact runsApart_walk hr_a hr_b hc_a hc_b hl_a hl_b (by omega) (by omega)

end Go.Proofs.Ytlelepopdjoedaa
