/- CursorBack returns true whatever comes in, and leaves all that was there as it was. -/
import Derived.Test.YtghfdbnbgkpnaaaRefC
import Derived.Test.YtghfdbnbgkpnaaaSmallC
import Derived.Test.YtghfdbnbgkpnaaaUp
import Derived.Test.YtghfdbnbgkpnaaaOpen
namespace Go.Proofs.Ytghfdbnbgkpnaaa
open Go.RowKit Go.Hm

set_option maxHeartbeats 1000000 in
set_option maxRecDepth 100000 in
theorem cursorBack_walk {w : World} {A A2 : Option Addr} {n c x n2 c2 : Nat} {l L : List Nat} (h : Reads w w.heap.size 1 A n (nums .u8 l)) (h8 : ∀ x ∈ l, x < 256) (hx : x ≤ 4294967295) (hn : n ≤ 500)
    (h2 : Reads w w.heap.size 1 A2 n2 (nums .u64 L)) (hL : ∀ x ∈ L, x ≤ 18446744073709551615) (hn2 : n2 ≤ 30) :
    Calls Try.prog 5 #[.slice A n c, .int .u32 (x : Int), .slice A2 n2 c2] w (SmallPost w) := by
  obtain rfl := h.len
  obtain rfl := h2.len
  go_enter Try.func5, Try.ntmps5
  go_wp2_with (first
    | (go_at_call 20; refine (small03_any w).mono ?_; rintro e w1 ⟨rfl, b1⟩
       have z1 := b1.size)
    | (go_at_call 34; refine (lay_u32 x ((h.below b1).more z1) (by omega)).mono ?_; rintro e w2 ⟨A3, n3, c3, rfl, k2, b2⟩
       have b02 := b1.trans (b2.mono b1.size)))
  go_loopw [8, 9] (fun v i wr => ∃ (k : Nat) (A : Option Addr) (m c : Nat), i = .int .i64 (k : Int) ∧ k ≤ L.length ∧ v = .slice A m c ∧ Own wr w.heap.size 5 (.slice A m c) (nums .u8 (l ++ low x 4 ++ cat8 (L.take k))) ∧ Below w.heap.size w wr) (fun _ i _ => L.length - (intOf i).toNat)
  case atStart => exact ⟨0, _, _, _, rfl, by omega, rfl, by simpa [cat8] using k2.base_le z1, b02⟩
  case round =>
    obtain ⟨k, A5, m5, c5, rfl, hk, rfl, o5, b5⟩ := hrel
    have z5 := b5.size
    by_cases hlt : k < L.length
    · have R := (h2.below b5).num hlt
      obtain ⟨ad, rfl, hb, hcell⟩ := R
      have q5 : m5 ≤ 1000 := by have := o5.len; rw [nums_length, List.length_append, List.length_append, low_len, cat8_len, List.length_take] at this; omega
      have T := take_snoc L k 0 hlt
      have HT := Lib.hid T
      clear T
      have hl0 : L.getD k 0 ≤ 18446744073709551615 := by
        rw [List.getD_eq_getElem?_getD, List.getElem?_eq_getElem hlt]
        exact hL _ (List.getElem_mem hlt)
      generalize L.getD k 0 = y at *
      go_wp2_with (first
        | (go_at_call 35; refine (lay_u64 y o5.reads (by omega)).mono ?_; rintro e w6 ⟨A6, n6, c6, rfl, k6, b6⟩))
      go_roundw
      case rel => exact ⟨k + 1, _, _, _, by go_num, by omega, rfl, by rw [HT.out, cat8_append, ← List.append_assoc]; simpa [cat8] using k6.base_le z5, below_then b5 b6 (Nat.le_refl _)⟩
      case measure => simp [intOf]; omega
    · obtain rfl : k = L.length := by omega
      rw [List.take_length] at o5
      have q5 : m5 ≤ 1000 := by have := o5.len; rw [nums_length, List.length_append, List.length_append, low_len, cat8_len] at this; omega
      have a8 : ∀ y ∈ l ++ low x 4 ++ cat8 L, y < 256 := by
        intro y hy
        simp only [List.mem_append] at hy
        rcases hy with (hy | hy) | hy
        · exact h8 y hy
        · exact low_lt _ _ y hy
        · exact cat8_lt _ y hy
      have O6 := Lib.hid (over_any (c := c5) o5.reads (by omega) a8)
      rw [List.append_assoc] at O6
      clear a8 o5 hk hlt k2
      go_wp2_with (first
        | (go_at_call 21; refine O6.out.mono ?_; rintro e w6 ⟨g, rfl, hg, C6, b6⟩
           have b06 := b5.trans (b6.mono b5.size)
           have TK := Lib.hid (take_app C6 (by omega)))
        | (go_at_call 26; refine TK.out.mono ?_; rintro e w7 ⟨A7, c7, rfl, k7, C7, b7⟩
           have b07 := Far.below b06 b7 (Nat.le_trans z5 hg) (Nat.le_refl _)
           have U := Lib.hid (u32_app C7 (by omega)))
        | (go_at_call 24; refine U.out.mono ?_; rintro e w8 ⟨rfl, C8, b8⟩
           have b08 := Far.below b07 b8 (Nat.le_trans z5 hg) (Nat.le_refl _)
           obtain ⟨T8, H8⟩ := C7.blk
           have S1 := run_strB (c := c7) (k7.keepT b8 H8 (by decide)).reads
           have S2 := run_strB (c := c) (h.below b08)))
      go_loopw [13] (fun i wr => ∃ (k : Nat), i = .int .i64 (k : Int) ∧ k ≤ L.length ∧ Cur wr g (cat8 (L.drop k)) false ∧ Below w.heap.size w wr) (fun i _ => L.length - (intOf i).toNat)
      case atStart => exact ⟨0, rfl, by omega, by simpa using C8, b08⟩
      case round =>
        obtain ⟨k, rfl, hk, C, b⟩ := hrel
        have hgw : w.heap.size ≤ g := Nat.le_trans z5 hg
        clear S1 S2
        by_cases hlt : k < L.length
        · obtain ⟨ad, rfl, hbl, _⟩ := (h2.below b).num hlt
          have Hc : ∀ W, Below w.heap.size w W → W.cell? (ad.add k) = some (.int .u64 ((L.getD k 0 : Nat) : Int)) := fun W hW => by
            obtain ⟨ad', e, _, hc⟩ := (h2.below hW).num hlt
            injection e with e
            rw [e]
            exact hc
          have hl0 : L.getD k 0 ≤ 18446744073709551615 := by
            rw [List.getD_eq_getElem?_getD, List.getElem?_eq_getElem hlt]
            exact hL _ (List.getElem_mem hlt)
          rw [drop_cons_getD L k 0 hlt, cat8_cons] at C
          generalize L.getD k 0 = y at *
          have HC := Lib.hid Hc
          clear Hc
          have C9 : Cur wr.drew g (low y 8 ++ cat8 (L.drop (k + 1))) false := C.below (New.drew wr)
          have E9 := Lib.hid (show Calls Try.prog 32 #[.pointer (some ⟨g, 0, none⟩)] wr.drew (BadPost false wr.drew) from by
            have := end_any C9
            simpa [low] using this)
          have U9 := Lib.hid (u64_app C9 (by omega))
          have hi : decide ((k : Int) < (L.length : Int)) = true := by simp; omega
          go_wp2
          refine wp_region_up (Far g) [(true, 0), (false, 1), (true, 2), (true, 3), (true, 5), (true, 6), (true, 7), (true, 8), (false, 4), (true, 9), (true, 10)]
            (Far.refl g) Far.trans (by kernel_rfl) (by kernel_rfl) (by kernel_rfl) (by kernel_rfl) ?_
          have hU : Below w.heap.size w wr.drew := b.drew
          repeat (first
            | (refine up_call rfl rfl (fun K hK => ?_); go_simp
               (with_reducible refine E9.out.mono ?_); rintro e w9 ⟨rfl, rfl⟩
               refine hK _ _ (Far.refl g _) ?_
               clear hK)
            | (refine up_call rfl rfl (fun K hK => ?_); go_simp
               (with_reducible refine U9.out.mono ?_); rintro e w9 ⟨rfl, D9, b9⟩
               refine hK _ _ b9 ?_
               clear hK
               have hU := Far.below hU b9 hgw (Nat.le_refl _))
            | (refine up_quiet rfl rfl (v := ?_) (fun W hW => ?_) ?_; rotate_left; (have hc := HC.out W (Far.below hU hW hgw (Nat.le_refl _)); go_simp <;> with_reducible rfl); simp only [Act.put, List.setIfInBounds_toArray, List.set_cons_zero, List.set_cons_succ]))
          refine up_nil ?_
          go_wp2
          go_roundw
          case rel => exact ⟨k + 1, by go_num, by omega, D9, hU⟩
          case measure => simp [intOf]; omega
        · obtain rfl : k = L.length := by omega
          rw [List.drop_length] at C
          have E9 := Lib.hid (show Calls Try.prog 32 #[.pointer (some ⟨g, 0, none⟩)] wr (BadPost true wr) from end_any C)
          go_wp2_with (go_at_call 32; refine E9.out.mono ?_; rintro e w9 ⟨rfl, rfl⟩)
          go_ret
          exact ⟨rfl, b⟩

set_option maxHeartbeats 400000 in
theorem cursorBack_big {w : World} {A A2 : Option Addr} {n c x n2 c2 : Nat} (hn : 500 < n ∨ 30 < n2) (hm : n ≤ 9223372036854775807) (hm2 : n2 ≤ 9223372036854775807) :
    Calls Try.prog 5 #[.slice A n c, .int .u32 (x : Int), .slice A2 n2 c2] w (SmallPost w) := by
  by_cases h : 500 < n
  · clear hn
    go_enter Try.func5, Try.ntmps5
    go_wp2_with (go_at_call 20; refine (small03_any w).mono ?_; rintro e w1 ⟨rfl, b1⟩)
    go_ret
    exact ⟨rfl, b1⟩
  · have h2 : 30 < n2 := by omega
    clear hn
    go_enter Try.func5, Try.ntmps5
    go_wp2_with (go_at_call 20; refine (small03_any w).mono ?_; rintro e w1 ⟨rfl, b1⟩)
    go_ret
    exact ⟨rfl, b1⟩

open Go.WideShapes Go.ChangeShapes in
theorem cursorBack_contract {H : Type} {enc : TypeId × Value → H} (W : World) (base : Nat) (args : Array Value) (ds : List (DataW H)) (ps : List MemPlace)
    (hval : ∀ (j : Nat) t v, Try.f5.params[j]? = some t → args[j]? = some v → Value.okWide Try.prog W .any base t v)
    (hA : DataW.TrodAll enc Try.prog W 0 (fun _ => true) true Try.f5.params.toList args.toList ds ps) (hlt : ∀ p ∈ ps, p.block < W.heap.size)
    (hsz : (DataW.weightsEach Try.prog Try.f5.params.toList ds).all (· ≤ reachBytes) = true) :
    Calls Try.prog 5 args W fun e W' => e = .returned (.bool true) ∧ Below W.heap.size W W' := by
  rw [Try.params5] at hA hval hsz
  obtain ⟨v0, v1, v2, d0, d1, d2, p0, p1, p2, rfl, rfl, rfl, h0, h1, h2⟩ := trodAll_three hA
  obtain ⟨A, c, l, rfl, hc, hm, hr, h8⟩ := open_B (hval 0 _ _ rfl rfl) h0 (fun p hp => hlt p (by simp [hp])) (sized_at hsz (j := 0) rfl rfl)
  obtain ⟨x, rfl, wx⟩ := open_u32 (hval 1 _ _ rfl rfl) h1
  obtain ⟨A2, c2, L, rfl, hc2, hm2, hr2, hL⟩ := open_W (hval 2 _ _ rfl rfl) h2 (fun p hp => hlt p (by simp [hp])) (sized_at hsz (j := 2) rfl rfl)
  by_cases hn : l.length ≤ 500 ∧ L.length ≤ 30
  · exact cursorBack_walk hr h8 wx hn.1 hr2 hL hn.2
  · exact cursorBack_big (by omega) (by omega) (by omega)
end Go.Proofs.Ytghfdbnbgkpnaaa
