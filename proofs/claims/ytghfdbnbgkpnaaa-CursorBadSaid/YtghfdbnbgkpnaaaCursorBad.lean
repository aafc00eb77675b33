/- CursorBad returns true whatever comes in, and leaves all that was there as it was. -/
import Derived.Test.YtghfdbnbgkpnaaaSmallC
import Derived.Test.YtghfdbnbgkpnaaaUp
import Derived.Test.YtghfdbnbgkpnaaaOpen
import Derived.Test.YtghfdbnbgkpnaaaPairs
namespace Go.Proofs.Ytghfdbnbgkpnaaa
open Go.RowKit Go.Hm

set_option maxHeartbeats 1000000 in
set_option maxRecDepth 100000 in
theorem cursorBad_walk {w : World} {A A2 : Option Addr} {n c n2 c2 : Nat} {l : List Nat} {L : List (Int × Int)} (h : Reads w w.heap.size 1 A n (nums .u8 l)) (h8 : ∀ x ∈ l, x < 256) (hn : n ≤ 500)
    (h2 : Reads w w.heap.size 2 A2 n2 (pairs L)) (hL : ∀ p ∈ L, (-9223372036854775808 ≤ p.1 ∧ p.1 ≤ 9223372036854775807) ∧ (-9223372036854775808 ≤ p.2 ∧ p.2 ≤ 9223372036854775807)) (hn2 : n2 ≤ 60) :
    Calls Try.prog 6 #[.slice A n c, .slice A2 n2 c2] w (SmallPost w) := by
  obtain rfl := h.len
  obtain rfl := h2.lenP
  go_enter Try.func6, Try.ntmps6
  go_wp2_with (first
    | (go_at_call 20; refine (small03_any w).mono ?_; rintro e w1 ⟨rfl, b1⟩
       have z1 := b1.size)
    | (go_at_call 21; refine (over_any ((h.below b1).more z1) (by omega) h8).mono ?_; rintro e w2 ⟨g, rfl, hg, C2, b2⟩
       have b02 := b1.trans (b2.mono z1)
       have hgw : w.heap.size ≤ g := Nat.le_trans z1 hg
       have TK := Lib.hid (take_bad (n := (l.length : Int) + 1) C2 (.inr (.inr (by omega))) (by omega) (by omega)))
    | (go_at_call 26; refine TK.out.mono ?_; rintro e w3 ⟨rfl, C3, b3⟩
       have b03 := Far.below b02 b3 hgw (Nat.le_refl _)
       have BD := Lib.hid (bad_any C3))
    | (go_at_call 31; refine BD.out.mono ?_; rintro e w4 ⟨rfl, rfl⟩))
  go_loopw [8] (fun i wr => ∃ (k : Nat), i = .int .i64 (k : Int) ∧ k ≤ L.length ∧ Cur wr g [] true ∧ Below w.heap.size w wr) (fun i _ => L.length - (intOf i).toNat)
  case atStart => exact ⟨0, rfl, by omega, C3, b03⟩
  case round =>
    obtain ⟨k, rfl, hk, C, b⟩ := hrel
    by_cases hlt : k < L.length
    · obtain ⟨ad, rfl, hbl, hc1, hc2⟩ := (h2.below b).pair hlt
      have hc3 : wr.cell? ⟨(ad.add (k * 2)).block, (ad.add (k * 2)).off + 1, none⟩ = some (.int .i64 (L.getD k (0, 0)).2) := by rw [← add_of_add] at hc2; exact hc2
      have hl0 := hL (L.getD k (0, 0)) (by rw [List.getD_eq_getElem?_getD, List.getElem?_eq_getElem hlt]; exact List.getElem_mem hlt)
      generalize (L.getD k (0, 0)).1 = z at *
      generalize (L.getD k (0, 0)).2 = m at *
      have hi : decide ((k : Int) < (L.length : Int)) = true := by simp; omega
      have BD := Lib.hid (bad_any C)
      have LF := Lib.hid (show Calls Try.prog 30 #[.pointer (some ⟨g, 0, none⟩)] wr (LeftPost [] wr) from left_any C)
      have EN := Lib.hid (show Calls Try.prog 32 #[.pointer (some ⟨g, 0, none⟩)] wr (BadPost false wr) from end_any C)
      go_wp2_with (first
        | (go_at_call 22; refine (byte_bad C (.inl rfl)).mono ?_; rintro e w9 ⟨rfl, C, b9⟩
           have b := Far.below b b9 hgw (Nat.le_refl _)
           have BD := Lib.hid (bad_any C)
           have LF := Lib.hid (show Calls Try.prog 30 #[.pointer (some ⟨g, 0, none⟩)] w9 (LeftPost [] w9) from left_any C)
           have EN := Lib.hid (show Calls Try.prog 32 #[.pointer (some ⟨g, 0, none⟩)] w9 (BadPost false w9) from end_any C))
        | (go_at_call 24; refine (u32_bad C (.inl rfl)).mono ?_; rintro e w9 ⟨rfl, C, b9⟩
           have b := Far.below b b9 hgw (Nat.le_refl _)
           have BD := Lib.hid (bad_any C)
           have LF := Lib.hid (show Calls Try.prog 30 #[.pointer (some ⟨g, 0, none⟩)] w9 (LeftPost [] w9) from left_any C)
           have EN := Lib.hid (show Calls Try.prog 32 #[.pointer (some ⟨g, 0, none⟩)] w9 (BadPost false w9) from end_any C))
        | (go_at_call 25; refine (u64_bad C (.inl rfl)).mono ?_; rintro e w9 ⟨rfl, C, b9⟩
           have b := Far.below b b9 hgw (Nat.le_refl _)
           have BD := Lib.hid (bad_any C)
           have LF := Lib.hid (show Calls Try.prog 30 #[.pointer (some ⟨g, 0, none⟩)] w9 (LeftPost [] w9) from left_any C)
           have EN := Lib.hid (show Calls Try.prog 32 #[.pointer (some ⟨g, 0, none⟩)] w9 (BadPost false w9) from end_any C))
        | (go_at_call 26; refine (take_bad (n := m) C (.inl rfl) (by omega) (by omega)).mono ?_; rintro e w9 ⟨rfl, C, b9⟩
           have b := Far.below b b9 hgw (Nat.le_refl _)
           have BD := Lib.hid (bad_any C)
           have LF := Lib.hid (show Calls Try.prog 30 #[.pointer (some ⟨g, 0, none⟩)] w9 (LeftPost [] w9) from left_any C)
           have EN := Lib.hid (show Calls Try.prog 32 #[.pointer (some ⟨g, 0, none⟩)] w9 (BadPost false w9) from end_any C))
        | (go_at_call 31; refine BD.out.mono ?_; rintro e w4 ⟨rfl, rfl⟩)
        | (go_at_call 30; refine LF.out.mono ?_; rintro e w4 ⟨rfl, rfl⟩)
        | (go_at_call 32; refine EN.out.mono ?_; rintro e w4 ⟨rfl, rfl⟩))
      all_goals
        go_roundw
        case rel => exact ⟨k + 1, by go_num, by omega, C, b⟩
        case measure => simp [intOf]; omega
    · obtain rfl : k = L.length := by omega
      go_wp2
      go_ret
      exact ⟨rfl, b⟩

set_option maxHeartbeats 400000 in
theorem cursorBad_big {w : World} {A A2 : Option Addr} {n c n2 c2 : Nat} {l : List Nat} (h : Reads w w.heap.size 1 A n (nums .u8 l)) (h8 : ∀ x ∈ l, x < 256) (hn : 500 < n ∨ 60 < n2) (hm : n ≤ 140737488351232) (hm2 : n2 ≤ 9223372036854775807) :
    Calls Try.prog 6 #[.slice A n c, .slice A2 n2 c2] w (SmallPost w) := by
  by_cases h1 : 500 < n
  · clear hn
    go_enter Try.func6, Try.ntmps6
    go_wp2_with (first
      | (go_at_call 20; refine (small03_any w).mono ?_; rintro e w1 ⟨rfl, b1⟩)
      | (go_at_call 21; refine (over_any ((h.below b1).more b1.size) (by omega) h8).mono ?_; rintro e w2 ⟨g, rfl, hg, C2, b2⟩))
    go_ret
    exact ⟨rfl, below_then b1 b2 (Nat.le_refl _)⟩
  · have h2 : 60 < n2 := by omega
    clear hn
    go_enter Try.func6, Try.ntmps6
    go_wp2_with (first
      | (go_at_call 20; refine (small03_any w).mono ?_; rintro e w1 ⟨rfl, b1⟩)
      | (go_at_call 21; refine (over_any ((h.below b1).more b1.size) (by omega) h8).mono ?_; rintro e w2 ⟨g, rfl, hg, C2, b2⟩))
    go_ret
    exact ⟨rfl, below_then b1 b2 (Nat.le_refl _)⟩

open Go.WideShapes Go.ChangeShapes in
theorem cursorBad_contract {H : Type} {enc : TypeId × Value → H} (W : World) (base : Nat) (args : Array Value) (ds : List (DataW H)) (ps : List MemPlace)
    (hval : ∀ (j : Nat) t v, Try.f6.params[j]? = some t → args[j]? = some v → Value.okWide Try.prog W .any base t v)
    (hA : DataW.TrodAll enc Try.prog W 0 (fun _ => true) true Try.f6.params.toList args.toList ds ps) (hlt : ∀ p ∈ ps, p.block < W.heap.size)
    (hsz : (DataW.weightsEach Try.prog Try.f6.params.toList ds).all (· ≤ reachBytes) = true) :
    Calls Try.prog 6 args W fun e W' => e = .returned (.bool true) ∧ Below W.heap.size W W' := by
  rw [Try.params6] at hA hval hsz
  obtain ⟨v0, v1, d0, d1, p0, p1, rfl, rfl, rfl, h0, h1⟩ := trodAll_two hA
  obtain ⟨A, c, l, rfl, hc, hm, hr, h8⟩ := open_B (hval 0 _ _ rfl rfl) h0 (fun p hp => hlt p (by simp [hp])) (sized_at hsz (j := 0) rfl rfl)
  obtain ⟨A2, c2, L, rfl, hc2, hm2, hr2, hL⟩ := open_pairs (P := Try.prog) (e := 31) (by kernel_rfl) Try.underlying31 (by kernel_rfl) (by kernel_rfl) (by kernel_rfl) (by kernel_rfl) (hval 1 _ _ rfl rfl) h1 (fun p hp => hlt p (by simp [hp]))
  have hm3 : L.length ≤ 9223372036854775807 := by simp only [maxLen] at hm2; omega
  by_cases hn : l.length ≤ 500 ∧ L.length ≤ 60
  · exact cursorBad_walk hr h8 hn.1 hr2 hL hn.2
  · exact cursorBad_big hr h8 (by omega) (by omega) hm3
end Go.Proofs.Ytghfdbnbgkpnaaa
