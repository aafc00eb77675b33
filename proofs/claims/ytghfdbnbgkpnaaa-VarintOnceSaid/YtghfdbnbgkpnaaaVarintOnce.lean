/- VarintOnce returns true whatever comes in, and leaves all that was there as it was. -/
import Derived.Test.YtghfdbnbgkpnaaaSmallV
import Derived.Test.YtghfdbnbgkpnaaaOpen
namespace Go.Proofs.Ytghfdbnbgkpnaaa
open Go.RowKit Go.Hm

set_option maxHeartbeats 1000000 in
set_option maxRecDepth 100000 in
theorem varintOnce_walk {w : World} {A : Option Addr} {n c : Nat} {l : List Nat} (h : Reads w w.heap.size 1 A n (nums .u8 l)) (h8 : ∀ x ∈ l, x < 256) (hn : n ≤ 300) (hc : n ≤ c) :
    Calls Try.prog 12 #[.slice A n c] w (SmallPost w) := by
  obtain rfl := h.len
  by_cases hN : ∃ N r, l = vp N ++ r ∧ N < 18446744073709551616
  · obtain ⟨N, r, hl, hN⟩ := hN
    have hv10 := vp_len10 hN
    obtain ⟨V, hV⟩ : ∃ V, V = vp N := ⟨_, rfl⟩
    rw [← hV] at hl hv10
    have hlen : (l.length : Int) = (V.length : Int) + r.length := by rw [hl]; simp
    have hd1 : decide (V.length ≤ l.length) = true := by simp only [decide_eq_true_eq]; omega
    have hd2 : IntKind.i64.wrap ((l.length : Int) - r.length) = (V.length : Int) := by rw [IntKind.wrap_i64]; omega
    have Hd := Lib.hid (And.intro hlen (And.intro hd1 hd2))
    have HV := Lib.hid hV
    have Hl := Lib.hid hl
    clear hlen hd1 hd2 hl hV
    go_enter Try.func12, Try.ntmps12
    go_wp2_with (first
      | (go_at_call 37; refine (small04_any w).mono ?_; rintro e w1 ⟨rfl, b1⟩
         have z1 := b1.size)
      | (go_at_call 21; refine (over_any ((h.below b1).more z1) (by omega) h8).mono ?_; rintro e w2 ⟨g, rfl, hg, C2, b2⟩
         have b02 := b1.trans (b2.mono z1)
         have hgw : w.heap.size ≤ g := Nat.le_trans z1 hg
         have G := Lib.hid (get_app (r := r) (by rw [← HV.out, ← Hl.out]; exact C2) hN))
      | (go_at_call 46; refine G.out.mono ?_; rintro e w3 ⟨rfl, C3, b3⟩
         have b03 := Far.below b02 b3 hgw (Nat.le_refl _)
         have B := Lib.hid (bad_any C3))
      | (go_at_call 31; refine B.out.mono ?_; rintro e w4 ⟨rfl, rfl⟩)
      | (go_at_call 38; refine (put_any none 0 0 [] N _ Reads.none_ (by omega) (by omega)).mono ?_; rintro e w5 ⟨A5, n5, c5, rfl, k5, b5⟩
         rw [List.nil_append, ← HV.out] at k5))
    obtain rfl : V.length = n5 := by have := k5.len; rw [nums_length] at this; exact this.symm
    have b05 := New.trans b03 b5
    have r5 := k5.reads
    have C5 := C3.below b5
    have LF := Lib.hid (left_any (C5.below (New.drew w5)))
    have HT : Reads w w.heap.size 1 A V.length (nums .u8 V) := by
      have := h.take (k := V.length) (by have := Hd.out.1; omega)
      rwa [show (nums .u8 l).take (V.length * 1) = nums .u8 V from by rw [Hl.out]; simp [nums]] at this
    have hVc : (V.length : Int) ≤ (c : Int) := by have := Hd.out.1; omega
    have hd1 := Hd.out.2.1
    have hd2 := Hd.out.2.2
    refine wp_region_up New [(true, 0), (true, 1), (true, 2), (true, 3), (true, 4), (true, 5), (true, 6), (true, 7), (true, 8), (true, 9), (true, 10), (true, 11), (true, 12), (true, 13), (false, 14), (true, 15), (true, 16), (true, 17), (true, 18), (true, 19), (true, 20), (true, 21), (true, 22), (true, 23), (true, 24), (true, 25), (true, 26), (true, 27), (true, 28)]
      New.refl New.trans (by kernel_rfl) (by kernel_rfl) (by kernel_rfl) (by kernel_rfl) ?_
    have hU := New.drew w5
    repeat (first
      | (refine up_call rfl rfl (fun K hK => ?_); go_simp
         (with_reducible refine LF.out.mono ?_); rintro e w9 ⟨rfl, rfl⟩
         refine hK _ _ (New.refl _) ?_
         clear hK)
      | (refine up_str elB.ht (by kernel_rfl) (by kernel_rfl) rfl rfl rfl r5 hU ?_; simp only [Act.put, List.setIfInBounds_toArray, List.set_cons_zero, List.set_cons_succ])
      | (refine up_str elB.ht (by kernel_rfl) (by kernel_rfl) rfl rfl rfl HT (New.trans b05 hU) ?_; simp only [Act.put, List.setIfInBounds_toArray, List.set_cons_zero, List.set_cons_succ])
      | (refine up_quiet rfl rfl (v := ?_) (fun W hW => ?_) ?_; rotate_left; (go_simp <;> with_reducible rfl); simp only [Act.put, List.setIfInBounds_toArray, List.set_cons_zero, List.set_cons_succ]))
    refine up_nil ?_
    go_wp2
    go_ret
    exact ⟨rfl, New.trans b05 hU⟩
  · have hN' : ∀ N r, l = vp N ++ r → 18446744073709551616 ≤ N := fun N r e => Nat.le_of_not_lt fun hlt => hN ⟨N, r, e, hlt⟩
    have HN := Lib.hid hN'
    clear hN hN'
    go_enter Try.func12, Try.ntmps12
    go_wp2_with (first
      | (go_at_call 37; refine (small04_any w).mono ?_; rintro e w1 ⟨rfl, b1⟩
         have z1 := b1.size)
      | (go_at_call 21; refine (over_any ((h.below b1).more z1) (by omega) h8).mono ?_; rintro e w2 ⟨g, rfl, hg, C2, b2⟩
         have b02 := b1.trans (b2.mono z1)
         have hgw : w.heap.size ≤ g := Nat.le_trans z1 hg
         have G := Lib.hid (get_no C2 (.inr HN.out)))
      | (go_at_call 46; refine G.out.mono ?_; rintro e w3 ⟨rfl, C3, b3⟩
         have b03 := Far.below b02 b3 hgw (Nat.le_refl _)
         have B := Lib.hid (bad_any C3)
         have LF := Lib.hid (show Calls Try.prog 30 #[.pointer (some ⟨g, 0, none⟩)] w3 (LeftPost [] w3) from left_any C3))
      | (go_at_call 31; refine B.out.mono ?_; rintro e w4 ⟨rfl, rfl⟩)
      | (go_at_call 30; refine LF.out.mono ?_; rintro e w4 ⟨rfl, rfl⟩))
    go_ret
    exact ⟨rfl, b03⟩

set_option maxHeartbeats 400000 in
theorem varintOnce_big {w : World} {A : Option Addr} {n c : Nat} {l : List Nat} (h : Reads w w.heap.size 1 A n (nums .u8 l)) (h8 : ∀ x ∈ l, x < 256) (hn : 300 < n) (hm : n ≤ 140737488351232) :
    Calls Try.prog 12 #[.slice A n c] w (SmallPost w) := by
  go_enter Try.func12, Try.ntmps12
  go_wp2_with (first
    | (go_at_call 37; refine (small04_any w).mono ?_; rintro e w1 ⟨rfl, b1⟩
       have z1 := b1.size)
    | (go_at_call 21; refine (over_any ((h.below b1).more z1) (by omega) h8).mono ?_; rintro e w2 ⟨g, rfl, hg, C2, b2⟩
       have b02 := b1.trans (b2.mono z1)))
  go_ret
  exact ⟨rfl, b02⟩

open Go.WideShapes Go.ChangeShapes in
theorem varintOnce_contract {H : Type} {enc : TypeId × Value → H} (W : World) (base : Nat) (args : Array Value) (ds : List (DataW H)) (ps : List MemPlace)
    (hval : ∀ (j : Nat) t v, Try.f12.params[j]? = some t → args[j]? = some v → Value.okWide Try.prog W .any base t v)
    (hA : DataW.TrodAll enc Try.prog W 0 (fun _ => true) true Try.f12.params.toList args.toList ds ps) (hlt : ∀ p ∈ ps, p.block < W.heap.size)
    (hsz : (DataW.weightsEach Try.prog Try.f12.params.toList ds).all (· ≤ reachBytes) = true) :
    Calls Try.prog 12 args W fun e W' => e = .returned (.bool true) ∧ Below W.heap.size W W' := by
  rw [Try.params12] at hA hval hsz
  obtain ⟨v0, d0, rfl, rfl, h0⟩ := trodAll_one hA
  obtain ⟨A, c, l, rfl, hc, hm, hr, h8⟩ := open_B (hval 0 _ _ rfl rfl) h0 hlt (sized_at hsz (j := 0) rfl rfl)
  by_cases hn : l.length ≤ 300
  · exact varintOnce_walk hr h8 hn hc
  · exact varintOnce_big hr h8 (by omega) (by omega)
end Go.Proofs.Ytghfdbnbgkpnaaa
