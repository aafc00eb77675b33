/- VarintGets returns true whatever comes in, and leaves all that was there as it was. -/
import Derived.Test.YtghfdbnbgkpnaaaRefV
import Derived.Test.YtghfdbnbgkpnaaaSmallV
import Derived.Test.YtghfdbnbgkpnaaaOpen
namespace Go.Proofs.Ytghfdbnbgkpnaaa
open Go.RowKit Go.Hm

/-- Both cursors read the same number, and go on alike. -/
theorem get_both (rl : List Nat) (bad : Bool) : ∃ (v : Nat) (rl' : List Nat) (bad' : Bool),
    (∀ w g, Cur w g rl bad → Calls Try.prog 46 #[.pointer (some ⟨g, 0, none⟩)] w (CurPost (.returned (.int .u64 (v : Int))) g rl' bad' w)) ∧
    (∀ w B g, RCur w B g rl bad → Calls Try.prog 47 #[.pointer (some ⟨g, 0, none⟩)] w (RPost (.returned (.int .u64 (v : Int))) B g rl' bad' w)) := by
  by_cases hN : bad = false ∧ ∃ N r, rl = vp N ++ r ∧ N < 18446744073709551616
  · obtain ⟨rfl, N, r, rfl, hN⟩ := hN
    exact ⟨N, r, false, fun w g h => get_app h hN, fun w B g h => rget_app h hN⟩
  · have hno : bad = true ∨ ∀ N r, rl = vp N ++ r → 18446744073709551616 ≤ N := by
      cases bad with
      | true => exact .inl rfl
      | false => exact .inr fun N r e => Nat.le_of_not_lt fun hlt => hN ⟨rfl, N, r, e, hlt⟩
    exact ⟨0, [], true, fun w g h => get_no h hno, fun w B g h => rget_no h hno⟩
theorem len_both (rl : List Nat) (bad : Bool) (m : Int) (hm0 : -9223372036854775808 ≤ m) (hm : m ≤ 9223372036854775807) : ∃ (v : Nat) (rl' : List Nat) (bad' : Bool),
    (∀ w g, Cur w g rl bad → Calls Try.prog 48 #[.pointer (some ⟨g, 0, none⟩), .int .i64 m] w (CurPost (.returned (.int .i64 (v : Int))) g rl' bad' w)) ∧
    (∀ w B g, RCur w B g rl bad → Calls Try.prog 49 #[.pointer (some ⟨g, 0, none⟩), .int .i64 m] w (RPost (.returned (.int .i64 (v : Int))) B g rl' bad' w)) := by
  by_cases hN : bad = false ∧ ∃ (N : Nat) (r : List Nat), rl = vp N ++ r ∧ (N : Int) ≤ m
  · obtain ⟨rfl, N, r, rfl, hN⟩ := hN
    exact ⟨N, r, false, fun w g h => len_app h hN hm, fun w B g h => rlen_app h hN hm⟩
  · have hno : bad = true ∨ ∀ (N : Nat) (r : List Nat), rl = vp N ++ r → m < N := by
      cases bad with
      | true => exact .inl rfl
      | false => exact .inr fun N r e => Int.lt_of_not_ge fun hlt => hN ⟨rfl, N, r, e, hlt⟩
    exact ⟨0, [], true, fun w g h => len_no h hno hm0 hm, fun w B g h => rlen_no h hno hm0 hm⟩

set_option maxHeartbeats 1000000 in
set_option maxRecDepth 100000 in
theorem varintGets_walk {w : World} {A A2 : Option Addr} {n c n2 c2 : Nat} {l : List Nat} {L : List Int} (h : Reads w w.heap.size 1 A n (nums .u8 l)) (h8 : ∀ x ∈ l, x < 256) (hn : n ≤ 500) (hc : n ≤ c) (hcm : c ≤ 140737488351232)
    (h2 : Reads w w.heap.size 1 A2 n2 (ints .i64 L)) (hL : ∀ x ∈ L, -9223372036854775808 ≤ x ∧ x ≤ 9223372036854775807) (hn2 : n2 ≤ 60) :
    Calls Try.prog 10 #[.slice A n c, .slice A2 n2 c2] w (SmallPost w) := by
  obtain rfl := h.len
  obtain rfl := h2.lenI
  go_enter Try.func10, Try.ntmps10
  go_wp2_with (first
    | (go_at_call 37; refine (small04_any w).mono ?_; rintro e w1 ⟨rfl, b1⟩
       have z1 := b1.size)
    | (go_at_call 21; refine (over_any ((h.below b1).more z1) (by omega) h8).mono ?_; rintro e w2 ⟨g, rfl, hg, C2, b2⟩
       have b02 := b1.trans (b2.mono z1)))
  have z2 := b02.size
  have hgw : w.heap.size ≤ g := Nat.le_trans z1 hg
  have hg2 := C2.lt
  have b03 : Below w.heap.size w (w2.alloc (.cells #[.slice A l.length c, .bool false] 29)) := b02.alloc z2 _
  have D3 : RCur (w2.alloc (.cells #[.slice A l.length c, .bool false] 29)) w.heap.size w2.heap.size l false :=
    ⟨A, c, Blk.new _ _ _, hc, by simp only [maxLen]; omega, h.below b03, z2, h8⟩
  have C3 := C2.below ((Below.refl w2.heap.size w2).alloc (Nat.le_refl _) (.cells #[.slice A l.length c, .bool false] 29))
  have hne : g ≠ w2.heap.size := by omega
  generalize w2.heap.size = d at *
  go_loopw [8] (fun i wr => ∃ (k : Nat) (rl : List Nat) (bad : Bool), i = .int .i64 (k : Int) ∧ k ≤ L.length ∧ Cur wr g rl bad ∧ RCur wr w.heap.size d rl bad ∧ Below w.heap.size w wr) (fun i _ => L.length - (intOf i).toNat)
  case atStart => exact ⟨0, _, _, rfl, by omega, C3, D3, b03⟩
  case round =>
    obtain ⟨k, rl, bad, rfl, hk, C, D, b⟩ := hrel
    by_cases hlt : k < L.length
    · obtain ⟨ad, rfl, hbl, hcell⟩ := (h2.below b).int hlt
      have hl0 : -9223372036854775808 ≤ L.getD k 0 ∧ L.getD k 0 ≤ 9223372036854775807 := by
        rw [List.getD_eq_getElem?_getD, List.getElem?_eq_getElem hlt]
        exact hL _ (List.getElem_mem hlt)
      generalize L.getD k 0 = z at *
      obtain ⟨l0, l1⟩ := hl0
      by_cases hz : (z.tmod 2 == 0) = true
      · obtain ⟨v, rl', bad', G, RG⟩ := get_both rl bad
        have G := Lib.hid (G wr g C)
        have RG := Lib.hid RG
        go_wp2_with (first
          | (go_at_call 46; refine G.out.mono ?_; rintro e w3 ⟨rfl, C3', b3⟩
             have D3' := D.keep b3 hgw (Ne.symm hne)
             have RG' := Lib.hid (RG.out w3 w.heap.size d D3'))
          | (go_at_call 47; refine RG'.out.mono ?_; rintro e w4 ⟨rfl, D4, b4⟩
             obtain ⟨T3, H3⟩ := D3'.blk
             have C4 := C3'.keep b4 H3 hne (by decide)))
        have hb4 : Below w.heap.size w w4 := Far.below (Far.below b b3 hgw (Nat.le_refl _)) b4 D3'.ge (Nat.le_refl _)
        clear b3 b4
        have b4 : Below w.heap.size w w4.drew := hb4.drew
        have C5 := C4.below (New.drew w4)
        have D5 := D4.below (New.drew w4)
        have LF := Lib.hid (left_any C5)
        have BF := Lib.hid (bad_any C5)
        obtain ⟨A6, c6, B6, _⟩ := id D5
        have HD := Lib.hid (fun W (hW : New w4.drew W) => (B6.below hW B6.lt).cell 0)
        have HE := Lib.hid (fun W (hW : New w4.drew W) => (B6.below hW B6.lt).cell 1)
        clear B6
        refine wp_region_up New [(true, 0), (true, 2), (true, 3), (true, 4), (true, 5), (true, 6), (false, 1), (true, 7), (true, 8), (true, 9), (true, 11), (true, 12), (true, 13), (true, 14), (false, 10), (true, 15), (true, 16)]
          New.refl New.trans (by kernel_rfl) (by kernel_rfl) (by kernel_rfl) (by kernel_rfl) ?_
        repeat (first
          | (refine up_call rfl rfl (fun K hK => ?_); go_simp
             (with_reducible refine LF.out.mono ?_); rintro e w9 ⟨rfl, rfl⟩
             refine hK _ _ (New.refl _) ?_
             clear hK)
          | (refine up_call rfl rfl (fun K hK => ?_); go_simp
             (with_reducible refine BF.out.mono ?_); rintro e w9 ⟨rfl, rfl⟩
             refine hK _ _ (New.refl _) ?_
             clear hK)
          | (refine up_skip rfl rfl ?_; simp only [Act.put, List.setIfInBounds_toArray, List.set_cons_zero, List.set_cons_succ])
          | (refine up_quiet rfl rfl (v := ?_) (fun W hW => ?_) ?_; rotate_left; (have hc := HD.out W hW; have hd := HE.out W hW; simp at hc hd; go_simp <;> with_reducible rfl); simp only [Act.put, List.setIfInBounds_toArray, List.set_cons_zero, List.set_cons_succ]))
        refine up_nil ?_
        go_wp2
        go_roundw
        case rel => exact ⟨k + 1, _, _, by go_num, by omega, C5, D5, b4⟩
        case measure => simp [intOf]; omega
      · have hz' : (z.tmod 2 == 0) = false := by simpa using hz
        clear hz
        obtain ⟨v, rl', bad', G, RG⟩ := len_both rl bad z l0 l1
        have G := Lib.hid (G wr.drew g (C.below (New.drew wr)))
        have RG := Lib.hid RG
        have Hc : ∀ W, Below w.heap.size wr.drew W → W.cell? (ad.add k) = some (.int .i64 z) := fun W hW => by
          rw [hW.cell (by rw [block_of_add]; exact hbl)]
          exact hcell
        have HC := Lib.hid Hc
        clear Hc
        go_wp2
        have hB := Below.refl w.heap.size wr.drew
        refine wp_region_up (Below w.heap.size) [(true, 0), (true, 1), (true, 2), (true, 3), (true, 4), (true, 6), (true, 7), (true, 8), (true, 9), (true, 10), (false, 5), (false, 11), (true, 12)]
          (Below.refl _) Below.trans (by kernel_rfl) (by kernel_rfl) (by kernel_rfl) (by kernel_rfl) ?_
        repeat (first
          | (refine up_call rfl rfl (fun K hK => ?_); go_simp
             (with_reducible refine G.out.mono ?_); rintro e w3 ⟨rfl, C3', b3⟩
             have hb3 : Below w.heap.size wr.drew w3 := Far.below (Below.refl _ _) b3 hgw b.size
             refine hK _ _ hb3 ?_
             clear hK
             have D3' := (D.below (New.drew wr)).keep b3 hgw (Ne.symm hne)
             have hB := hb3
             have RG' := Lib.hid (RG.out w3 w.heap.size d D3'))
          | (refine up_call rfl rfl (fun K hK => ?_); go_simp
             (with_reducible refine RG'.out.mono ?_); rintro e w4 ⟨rfl, D4, b4⟩
             have hb4 : Below w.heap.size w3 w4 := Far.below (Below.refl _ _) b4 D3'.ge (Nat.le_trans b.size hb3.size)
             refine hK _ _ hb4 ?_
             clear hK
             obtain ⟨T3, H3⟩ := D3'.blk
             have C4 := C3'.keep b4 H3 hne (by decide)
             have hB := hB.trans hb4)
          | (refine up_quiet rfl rfl (v := ?_) (fun W hW => ?_) ?_; rotate_left; (have hc := HC.out W (hB.trans hW); go_simp <;> with_reducible rfl); simp only [Act.put, List.setIfInBounds_toArray, List.set_cons_zero, List.set_cons_succ]))
        refine up_nil ?_
        go_wp2
        have hb4 : Below w.heap.size w w4 := b.drew.trans hB
        have b4 : Below w.heap.size w w4.drew := hb4.drew
        have C5 := C4.below (New.drew w4)
        have D5 := D4.below (New.drew w4)
        have LF := Lib.hid (left_any C5)
        have BF := Lib.hid (bad_any C5)
        obtain ⟨A6, c6, B6, _⟩ := id D5
        have HD := Lib.hid (fun W (hW : New w4.drew W) => (B6.below hW B6.lt).cell 0)
        have HE := Lib.hid (fun W (hW : New w4.drew W) => (B6.below hW B6.lt).cell 1)
        clear B6
        refine wp_region_up New [(true, 0), (true, 2), (true, 3), (true, 4), (true, 5), (true, 6), (false, 1), (true, 7), (true, 8), (true, 9), (true, 11), (true, 12), (true, 13), (true, 14), (false, 10), (true, 15), (true, 16)]
          New.refl New.trans (by kernel_rfl) (by kernel_rfl) (by kernel_rfl) (by kernel_rfl) ?_
        repeat (first
          | (refine up_call rfl rfl (fun K hK => ?_); go_simp
             (with_reducible refine LF.out.mono ?_); rintro e w9 ⟨rfl, rfl⟩
             refine hK _ _ (New.refl _) ?_
             clear hK)
          | (refine up_call rfl rfl (fun K hK => ?_); go_simp
             (with_reducible refine BF.out.mono ?_); rintro e w9 ⟨rfl, rfl⟩
             refine hK _ _ (New.refl _) ?_
             clear hK)
          | (refine up_skip rfl rfl ?_; simp only [Act.put, List.setIfInBounds_toArray, List.set_cons_zero, List.set_cons_succ])
          | (refine up_quiet rfl rfl (v := ?_) (fun W hW => ?_) ?_; rotate_left; (have hc := HD.out W hW; have hd := HE.out W hW; simp at hc hd; go_simp <;> with_reducible rfl); simp only [Act.put, List.setIfInBounds_toArray, List.set_cons_zero, List.set_cons_succ]))
        refine up_nil ?_
        go_wp2
        go_roundw
        case rel => exact ⟨k + 1, _, _, by go_num, by omega, C5, D5, b4⟩
        case measure => simp [intOf]; omega
    · obtain rfl : k = L.length := by omega
      go_wp2
      go_ret
      exact ⟨rfl, b⟩

set_option maxHeartbeats 400000 in
theorem varintGets_big {w : World} {A A2 : Option Addr} {n c n2 c2 : Nat} {l : List Nat} (h : Reads w w.heap.size 1 A n (nums .u8 l)) (h8 : ∀ x ∈ l, x < 256) (hn : 500 < n ∨ 60 < n2) (hm : n ≤ 140737488351232) (hm2 : n2 ≤ 9223372036854775807) :
    Calls Try.prog 10 #[.slice A n c, .slice A2 n2 c2] w (SmallPost w) := by
  by_cases hb : 500 < n
  · clear hn
    go_enter Try.func10, Try.ntmps10
    go_wp2_with (first
      | (go_at_call 37; refine (small04_any w).mono ?_; rintro e w1 ⟨rfl, b1⟩
         have z1 := b1.size)
      | (go_at_call 21; refine (over_any ((h.below b1).more z1) (by omega) h8).mono ?_; rintro e w2 ⟨g, rfl, hg, C2, b2⟩
         have b02 := b1.trans (b2.mono z1)))
    go_ret
    exact ⟨rfl, b02⟩
  · have h2 : 60 < n2 := by omega
    clear hn
    go_enter Try.func10, Try.ntmps10
    go_wp2_with (first
      | (go_at_call 37; refine (small04_any w).mono ?_; rintro e w1 ⟨rfl, b1⟩
         have z1 := b1.size)
      | (go_at_call 21; refine (over_any ((h.below b1).more z1) (by omega) h8).mono ?_; rintro e w2 ⟨g, rfl, hg, C2, b2⟩
         have b02 := b1.trans (b2.mono z1)))
    go_ret
    exact ⟨rfl, b02⟩

open Go.WideShapes Go.ChangeShapes in
theorem varintGets_contract {H : Type} {enc : TypeId × Value → H} (W : World) (base : Nat) (args : Array Value) (ds : List (DataW H)) (ps : List MemPlace)
    (hval : ∀ (j : Nat) t v, Try.f10.params[j]? = some t → args[j]? = some v → Value.okWide Try.prog W .any base t v)
    (hA : DataW.TrodAll enc Try.prog W 0 (fun _ => true) true Try.f10.params.toList args.toList ds ps) (hlt : ∀ p ∈ ps, p.block < W.heap.size)
    (hsz : (DataW.weightsEach Try.prog Try.f10.params.toList ds).all (· ≤ reachBytes) = true) :
    Calls Try.prog 10 args W fun e W' => e = .returned (.bool true) ∧ Below W.heap.size W W' := by
  rw [Try.params10] at hA hval hsz
  obtain ⟨v0, v1, d0, d1, p0, p1, rfl, rfl, rfl, h0, h1⟩ := trodAll_two hA
  obtain ⟨A, c, l, rfl, hc, hm, hr, h8⟩ := open_B (hval 0 _ _ rfl rfl) h0 (fun p hp => hlt p (by simp [hp])) (sized_at hsz (j := 0) rfl rfl)
  obtain ⟨A2, c2, L, rfl, hc2, hm2, hr2, hL⟩ := open_I (hval 1 _ _ rfl rfl) h1 (fun p hp => hlt p (by simp [hp])) (sized_at hsz (j := 1) rfl rfl)
  by_cases hn : l.length ≤ 500 ∧ L.length ≤ 60
  · exact varintGets_walk hr h8 hn.1 hc hm hr2 hL hn.2
  · exact varintGets_big hr h8 (by omega) (by omega) (by omega)
end Go.Proofs.Ytghfdbnbgkpnaaa
