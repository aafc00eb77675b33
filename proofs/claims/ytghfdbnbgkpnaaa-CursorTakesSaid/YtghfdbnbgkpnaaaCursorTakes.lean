/- CursorTakes returns true whatever comes in, and leaves all that was there as it was. -/
import Derived.Test.YtghfdbnbgkpnaaaSmallC
import Derived.Test.YtghfdbnbgkpnaaaUp
import Derived.Test.YtghfdbnbgkpnaaaOpen
namespace Go.Proofs.Ytghfdbnbgkpnaaa
open Go.RowKit Go.Hm

set_option maxHeartbeats 1000000 in
set_option maxRecDepth 100000 in
theorem cursorTakes_walk {w : World} {A A2 : Option Addr} {n c n2 c2 : Nat} {l : List Nat} {L : List Int} (h : Reads w w.heap.size 1 A n (nums .u8 l)) (h8 : ∀ x ∈ l, x < 256) (hn : n ≤ 500)
    (h2 : Reads w w.heap.size 1 A2 n2 (ints .i64 L)) (hL : ∀ x ∈ L, -9223372036854775808 ≤ x ∧ x ≤ 9223372036854775807) (hn2 : n2 ≤ 40) :
    Calls Try.prog 8 #[.slice A n c, .slice A2 n2 c2] w (SmallPost w) := by
  obtain rfl := h.len
  obtain rfl := h2.lenI
  go_enter Try.func8, Try.ntmps8
  go_wp2_with (first
    | (go_at_call 20; refine (small03_any w).mono ?_; rintro e w1 ⟨rfl, b1⟩
       have z1 := b1.size)
    | (go_at_call 21; refine (over_any ((h.below b1).more z1) (by omega) h8).mono ?_; rintro e w2 ⟨g, rfl, hg, C2, b2⟩
       have b02 := b1.trans (b2.mono z1)))
  have hgw : w.heap.size ≤ g := Nat.le_trans z1 hg
  go_loopw [7, 8] (fun s i wr => ∃ (k : Nat) (P R : List Nat), i = .int .i64 (k : Int) ∧ k ≤ L.length ∧ s = .string (bstr P) ∧ P ++ R = l ∧ Cur wr g R false ∧ Below w.heap.size w wr) (fun _ i _ => L.length - (intOf i).toNat)
  case atStart => exact ⟨0, [], l, rfl, by omega, rfl, rfl, C2, b02⟩
  case round =>
    obtain ⟨k, P, R, rfl, hk, rfl, hPR, C, b⟩ := hrel
    by_cases hlt : k < L.length
    · obtain ⟨ad, rfl, hbl, _⟩ := (h2.below b).int hlt
      have Hc : ∀ W, Below w.heap.size w W → W.cell? (ad.add k) = some (.int .i64 (L.getD k 0)) := fun W hW => by
        obtain ⟨ad', e, _, hc⟩ := (h2.below hW).int hlt
        injection e with e
        rw [e]
        exact hc
      have hl0 : -9223372036854775808 ≤ L.getD k 0 ∧ L.getD k 0 ≤ 9223372036854775807 := by
        rw [List.getD_eq_getElem?_getD, List.getElem?_eq_getElem hlt]
        exact hL _ (List.getElem_mem hlt)
      have hi : decide ((k : Int) < (L.length : Int)) = true := by simp; omega
      have hRl : R.length ≤ 500 := by have := congrArg List.length hPR; simp at this; omega
      have hPl : (P.length : Int) + R.length = l.length := by have := congrArg List.length hPR; simp at this; omega
      generalize L.getD k 0 = z at *
      have HC := Lib.hid Hc
      clear Hc
      have LF := Lib.hid (left_any (C.below (New.drew wr)))
      have LF2 := Lib.hid (left_any C)
      have hor : z < 0 ∨ (0 ≤ z ∧ (R.length : Int) < z) ∨ (0 ≤ z ∧ z ≤ R.length) := by omega
      rcases hor with h0 | ⟨h0, h1⟩ | ⟨h0, h1⟩
      · have hz0 : decide (z < 0) = true := by simpa using h0
        go_wp2
        refine wp_region_up New [(true, 0), (true, 1), (true, 2), (true, 3), (true, 4), (true, 5), (true, 6), (true, 7), (true, 8), (true, 9), (true, 10), (false, 11), (true, 12), (true, 13)]
          New.refl New.trans (by kernel_rfl) (by kernel_rfl) (by kernel_rfl) (by kernel_rfl) ?_
        have hU : New w wr.drew := New.trans b (New.drew wr)
        repeat (first
          | (refine up_call rfl rfl (fun K hK => ?_); go_simp
             (with_reducible refine LF.out.mono ?_); rintro e w9 ⟨rfl, rfl⟩
             refine hK _ _ (New.refl _) ?_
             clear hK)
          | (refine up_skip rfl rfl ?_; simp only [Act.put, List.setIfInBounds_toArray, List.set_cons_zero, List.set_cons_succ])
          | (refine up_quiet rfl rfl (v := ?_) (fun W hW => ?_) ?_; rotate_left; (have hc := HC.out W (New.trans hU hW); go_simp <;> with_reducible rfl); simp only [Act.put, List.setIfInBounds_toArray, List.set_cons_zero, List.set_cons_succ]))
        refine up_nil ?_
        go_wp2
        go_roundw
        case rel => exact ⟨k + 1, P, R, by go_num, by omega, rfl, hPR, C.below (New.drew wr), b.drew⟩
        case measure => simp [intOf]; omega
      · have hz0 : decide (z < 0) = false := by simpa using h0
        have hz1 : decide ((R.length : Int) < z) = true := by simpa using h1
        go_wp2
        refine wp_region_up New [(true, 0), (true, 1), (true, 2), (true, 3), (true, 4), (true, 5), (true, 6), (true, 7), (true, 8), (true, 9), (true, 10), (false, 11), (true, 12), (true, 13)]
          New.refl New.trans (by kernel_rfl) (by kernel_rfl) (by kernel_rfl) (by kernel_rfl) ?_
        have hU : New w wr.drew := New.trans b (New.drew wr)
        repeat (first
          | (refine up_call rfl rfl (fun K hK => ?_); go_simp
             (with_reducible refine LF.out.mono ?_); rintro e w9 ⟨rfl, rfl⟩
             refine hK _ _ (New.refl _) ?_
             clear hK)
          | (refine up_skip rfl rfl ?_; simp only [Act.put, List.setIfInBounds_toArray, List.set_cons_zero, List.set_cons_succ])
          | (refine up_quiet rfl rfl (v := ?_) (fun W hW => ?_) ?_; rotate_left; (have hc := HC.out W (New.trans hU hW); go_simp <;> with_reducible rfl); simp only [Act.put, List.setIfInBounds_toArray, List.set_cons_zero, List.set_cons_succ]))
        refine up_nil ?_
        go_wp2
        go_roundw
        case rel => exact ⟨k + 1, P, R, by go_num, by omega, rfl, hPR, C.below (New.drew wr), b.drew⟩
        case measure => simp [intOf]; omega
      · have hz0 : decide (z < 0) = false := by simpa using h0
        have hz1 : decide ((R.length : Int) < z) = false := by simpa using h1
        obtain ⟨m, rfl⟩ := Int.eq_ofNat_of_zero_le h0
        go_wp2
        refine wp_region_up New [(true, 0), (true, 1), (true, 2), (true, 3), (true, 4), (true, 5), (true, 6), (true, 7), (true, 8), (true, 9), (true, 10), (false, 11), (true, 12), (true, 13)]
          New.refl New.trans (by kernel_rfl) (by kernel_rfl) (by kernel_rfl) (by kernel_rfl) ?_
        have hU : New w wr.drew := New.trans b (New.drew wr)
        repeat (first
          | (refine up_call rfl rfl (fun K hK => ?_); go_simp
             (with_reducible refine LF.out.mono ?_); rintro e w9 ⟨rfl, rfl⟩
             refine hK _ _ (New.refl _) ?_
             clear hK)
          | (refine up_skip rfl rfl ?_; simp only [Act.put, List.setIfInBounds_toArray, List.set_cons_zero, List.set_cons_succ])
          | (refine up_quiet rfl rfl (v := ?_) (fun W hW => ?_) ?_; rotate_left; (have hc := HC.out W (New.trans hU hW); go_simp <;> with_reducible rfl); simp only [Act.put, List.setIfInBounds_toArray, List.set_cons_zero, List.set_cons_succ]))
        refine up_nil ?_
        have TK := Lib.hid (take_good (n := m) (C.below (New.drew wr)) (by omega) (by omega))
        have htl : (R.take m).length = m := by rw [List.length_take]; omega
        have AD := run_sadd Try.prog P (R.take m) (by rw [htl]; omega)
        have SZ := bstr_size (P ++ R.take m)
        rw [List.length_append, htl] at SZ
        have hcast : ((P.length + m : Nat) : Int) = (P.length : Int) + (m : Int) := by omega
        have hdl : ((R.drop m).length : Int) = (l.length : Int) - ((P.length : Int) + (m : Int)) := by rw [List.length_drop]; omega
        have HDL := Lib.hid hdl
        clear hdl
        clear hz0 hz1
        go_wp2_with (first
          | (go_at_call 26; refine TK.out.mono ?_; rintro e w7 ⟨A7, c7, rfl, k7, C7, b7⟩
             have hb7 := Far.below hU b7 hgw (Nat.le_refl _)
             have S7 := run_strB (c := c7) k7.reads
             have B7 := Lib.hid (bad_any C7)
             have L7 := left_any C7
             unfold LeftPost at L7
             rw [HDL.out] at L7
             have L8 := Lib.hid L7
             clear L7)
          | (go_at_call 31; refine B7.out.mono ?_; rintro e w9 ⟨rfl, rfl⟩)
          | (go_at_call 30; refine L8.out.mono ?_; rintro e w9 ⟨rfl, rfl⟩))
        go_roundw
        case rel => exact ⟨k + 1, P ++ R.take m, R.drop m, by go_num, by omega, rfl, by rw [List.append_assoc, List.take_append_drop]; exact hPR, C7, hb7⟩
        case measure => simp [intOf]; omega
    · obtain rfl : k = L.length := by omega
      have LF := Lib.hid (left_any C)
      have TK := Lib.hid (take_app (a := R) (b := []) (by simpa using C) (by have := congrArg List.length hPR; simp at this; omega))
      have AD := run_sadd Try.prog P R (by have := congrArg List.length hPR; simp at this; omega)
      rw [hPR] at AD
      clear hPR
      go_wp2_with (first
        | (go_at_call 30; refine LF.out.mono ?_; rintro e w9 ⟨rfl, rfl⟩)
        | (go_at_call 26; refine TK.out.mono ?_; rintro e w7 ⟨A7, c7, rfl, k7, C7, b7⟩
           have hb7 := Far.below b b7 hgw (Nat.le_refl _)
           have S7 := run_strB (c := c7) k7.reads
           have S8 := run_strB (c := c) (h.below hb7)
           have E7 := Lib.hid (show Calls Try.prog 32 #[.pointer (some ⟨g, 0, none⟩)] w7 (BadPost true w7) from end_any C7))
        | (go_at_call 32; refine E7.out.mono ?_; rintro e w9 ⟨rfl, rfl⟩))
      go_ret
      exact ⟨rfl, hb7⟩

set_option maxHeartbeats 400000 in
theorem cursorTakes_big {w : World} {A A2 : Option Addr} {n c n2 c2 : Nat} {l : List Nat} (h : Reads w w.heap.size 1 A n (nums .u8 l)) (h8 : ∀ x ∈ l, x < 256) (hn : 500 < n ∨ 40 < n2) (hm : n ≤ 140737488351232) (hm2 : n2 ≤ 9223372036854775807) :
    Calls Try.prog 8 #[.slice A n c, .slice A2 n2 c2] w (SmallPost w) := by
  by_cases h1 : 500 < n
  · clear hn
    go_enter Try.func8, Try.ntmps8
    go_wp2_with (first
      | (go_at_call 20; refine (small03_any w).mono ?_; rintro e w1 ⟨rfl, b1⟩)
      | (go_at_call 21; refine (over_any ((h.below b1).more b1.size) (by omega) h8).mono ?_; rintro e w2 ⟨g, rfl, hg, C2, b2⟩))
    go_ret
    exact ⟨rfl, below_then b1 b2 (Nat.le_refl _)⟩
  · have h2 : 40 < n2 := by omega
    clear hn
    go_enter Try.func8, Try.ntmps8
    go_wp2_with (first
      | (go_at_call 20; refine (small03_any w).mono ?_; rintro e w1 ⟨rfl, b1⟩)
      | (go_at_call 21; refine (over_any ((h.below b1).more b1.size) (by omega) h8).mono ?_; rintro e w2 ⟨g, rfl, hg, C2, b2⟩))
    go_ret
    exact ⟨rfl, below_then b1 b2 (Nat.le_refl _)⟩

open Go.WideShapes Go.ChangeShapes in
theorem cursorTakes_contract {H : Type} {enc : TypeId × Value → H} (W : World) (base : Nat) (args : Array Value) (ds : List (DataW H)) (ps : List MemPlace)
    (hval : ∀ (j : Nat) t v, Try.f8.params[j]? = some t → args[j]? = some v → Value.okWide Try.prog W .any base t v)
    (hA : DataW.TrodAll enc Try.prog W 0 (fun _ => true) true Try.f8.params.toList args.toList ds ps) (hlt : ∀ p ∈ ps, p.block < W.heap.size)
    (hsz : (DataW.weightsEach Try.prog Try.f8.params.toList ds).all (· ≤ reachBytes) = true) :
    Calls Try.prog 8 args W fun e W' => e = .returned (.bool true) ∧ Below W.heap.size W W' := by
  rw [Try.params8] at hA hval hsz
  obtain ⟨v0, v1, d0, d1, p0, p1, rfl, rfl, rfl, h0, h1⟩ := trodAll_two hA
  obtain ⟨A, c, l, rfl, hc, hm, hr, h8⟩ := open_B (hval 0 _ _ rfl rfl) h0 (fun p hp => hlt p (by simp [hp])) (sized_at hsz (j := 0) rfl rfl)
  obtain ⟨A2, c2, L, rfl, hc2, hm2, hr2, hL⟩ := open_I (hval 1 _ _ rfl rfl) h1 (fun p hp => hlt p (by simp [hp])) (sized_at hsz (j := 1) rfl rfl)
  by_cases hn : l.length ≤ 500 ∧ L.length ≤ 40
  · exact cursorTakes_walk hr h8 hn.1 hr2 hL hn.2
  · exact cursorTakes_big hr h8 (by omega) (by omega) (by omega)
end Go.Proofs.Ytghfdbnbgkpnaaa
