/- SchemaPuts returns true whatever comes in, and leaves all that was there as it was. -/
import Derived.Test.YtpbfohgmhjadpabLaw16
import Derived.Test.YtpbfohgmhjadpabSchR

namespace Go.Proofs.Ytpbfohgmhjadpab
open Go.RowKit Go.Hm

set_option maxHeartbeats 1000000 in
set_option maxRecDepth 100000 in
theorem schemaPuts_walk {w : World} {A A2 : Option Addr} {n c n2 c2 : Nat} {b : List Nat} {L : List ColS} (h : Reads w w.heap.size 1 A n (nums .u8 b)) (hn : n ≤ 300) (h2 : Reads w w.heap.size 3 A2 n2 (recs colV L)) (hL : ∀ x ∈ L, (∀ z ∈ x.1, z < 256) ∧ x.1.length ≤ 140737488351232) (hc : n2 ≤ c2) (hn2 : n2 ≤ 4611686018427387903) :
    Calls Try.prog 3 #[.slice A n c, .slice A2 n2 c2] w (SmallPost w) := by
  obtain rfl := h.len
  have F := Lib.hid (fun (W : World) (hW : New w W) => few16_any (c := c2) (Reads.later h2 hW) (fun x hx => (hL x hx).2) hn2)
  have PP := Lib.hid (fun (W : World) (hW : New w W) (A : Option Addr) (c : Nat) (hr : Reads W W.heap.size 1 A b.length (nums .u8 b)) => sput_any (c := c) hr (by omega) (Reads.later h2 hW) hL hc hn2)
  have RP := Lib.hid (fun (W : World) (hW : New w W) => rsput_any (c := c) (c2 := c2) (Reads.later h hW) (by omega) (Reads.later h2 hW) hL hn2)
  have t1 : decide (300 < (b.length : Int)) = false := by simp; omega
  have hpl : (putC b L).length ≤ 140737488300000 := by
    unfold putC
    split
    · rename_i hk
      obtain ⟨m1, m2, _⟩ := (colsCk_iff L).1 hk
      have := catC_len L (fun x hx => (m2 x hx).2.1)
      have := vp_len10 (n := L.length) (by omega)
      rw [List.length_append, List.length_append]
      omega
    · omega
  generalize putC b L = V at *
  go_enter Try.func3, Try.ntmps3
  go_wp2_with fail
  refine (small16_any w).mono ?_
  rintro e w1 ⟨rfl, b1⟩
  go_wp2_with fail
  refine (F.out w1 b1).mono ?_
  rintro e w1' ⟨bb, rfl, rfl⟩
  have z1 := b1.size
  cases bb
  · go_wp2
    go_ret
    exact ⟨rfl, b1⟩
  · go_wp2_with (first
      | (refine wpList_mk elB rfl (.tmp 23) (.tmp 26) rfl (W := w) (B := w.heap.size) b.length (b.length + 40) rfl rfl rfl (by simp) (by omega) b1 z1 rfl (by omega) (by simp only [maxLen]; omega) ?_
         intro w2 o2 g2 b2 s2
         have r2 := h.below b2)
      | (refine wpList_cp elB rfl (.tmp 28) (.tmp 29) rfl (W := w) (B := w.heap.size) o2 (r2.more b2.size) rfl rfl b.length (Nat.min_self _) b2 z1 (nums_oneCell _ _) ?_
         intro w3 o3 g3 b3 s3
         rw [List.take_of_length_le (by rw [nums_length]; omega), List.drop_of_length_le (by simp), List.append_nil] at o3))
    have P4 := Lib.hid (PP.out w3 b3 _ (b.length + 40) o3.reads)
    refine P4.out.mono ?_
    rintro e w4 ⟨A4, n4, c4, rfl, k4, b4⟩
    have b04 := b3.trans (b4.mono b3.size)
    have q4 : n4 ≤ 140737488300000 := by have := k4.len; rw [nums_length] at this; omega
    have HC3 := Lib.hid (And.intro o3 b3)
    clear P4 PP
    go_wp2_with fail
    refine wp_region_up New [(true, 0), (true, 1), (true, 2), (true, 3), (false, 4), (true, 5), (true, 6), (true, 7)]
      New.refl New.trans (by kernel_rfl) (by kernel_rfl) (by kernel_rfl) (by kernel_rfl) ?_
    have hU := New.drew w4
    have RP := Lib.hid (RP.out w4.drew (New.trans b04 hU))
    repeat (first
      | (refine up_call rfl rfl (fun K hK => ?_); go_simp
         (with_reducible refine RP.out.mono ?_)
         rintro e w6 ⟨A6, n6, c6, rfl, k6, b6⟩
         refine hK _ _ b6 ?_
         clear hK
         replace hU := New.trans hU b6
         have r6 := k6.reads)
      | (refine up_str elB.ht (by kernel_rfl) (by kernel_rfl) rfl rfl rfl r6 (New.refl _) ?_; simp only [Act.put, List.setIfInBounds_toArray, List.set_cons_zero, List.set_cons_succ])
      | (refine up_str elB.ht (by kernel_rfl) (by kernel_rfl) rfl rfl rfl k4.reads hU ?_; simp only [Act.put, List.setIfInBounds_toArray, List.set_cons_zero, List.set_cons_succ])
      | (refine up_quiet rfl rfl (v := ?_) (fun W hW => ?_) ?_; rotate_left; (go_simp <;> with_reducible rfl); simp only [Act.put, List.setIfInBounds_toArray, List.set_cons_zero, List.set_cons_succ]))
    refine up_nil ?_
    go_wp2
    have hU6 : New w4 w6 := hU
    have z4 := b04.size
    have z6 := hU6.size
    have x4 : Own w6 w3.heap.size 5 (.slice A4 n4 c4) (nums .u8 V) := k4.below hU6 (Nat.le_refl _)
    have f6 : Below w3.heap.size w3 w6 := New.trans b4 hU6
    clear r6 k6 b6 hU r2 k4 RP
    go_loopw [10] (fun i wr => ∃ (k : Nat) (X : List Value), i = .int .i64 (k : Int) ∧ k ≤ n4 ∧ Own wr w3.heap.size 5 (.slice A4 n4 c4) X ∧ Below w3.heap.size w3 wr) (fun i _ => n4 - (intOf i).toNat)
    case atStart => exact ⟨0, _, rfl, by omega, x4, f6⟩
    case round =>
      obtain ⟨k, X, rfl, hk, hown, hb⟩ := hrel
      by_cases hlt : k < n4
      · obtain ⟨g, u, rfl, hgb, hgl, hu, hcell, hfro, hset⟩ := hown.at_ hlt
        have Hu := Lib.hid hu
        clear hu
        go_wp2
        go_roundw
        case rel => exact ⟨k + 1, _, by go_num, by omega, hset _, hb.setCell hgb _⟩
        case measure => simp [intOf]; omega
      · have b07 : New w wr := Below.trans b3 (hb.mono b3.size)
        have S1 := run_strB (c := b.length + 40) (HC3.out.1.reads.below hb)
        have S2 := run_strB (c := c) (h.below b07)
        go_wp2
        go_ret
        exact ⟨by simp, b07⟩

set_option maxHeartbeats 400000 in
theorem schemaPuts_big {w : World} {A A2 : Option Addr} {n c n2 c2 : Nat} {L : List ColS} (hn : n ≤ 9223372036854775807) (hb : 300 < n) (h2 : Reads w w.heap.size 3 A2 n2 (recs colV L)) (hL : ∀ x ∈ L, x.1.length ≤ 140737488351232) (hn2 : n2 ≤ 4611686018427387903) :
    Calls Try.prog 3 #[.slice A n c, .slice A2 n2 c2] w (SmallPost w) := by
  have F := Lib.hid (fun (W : World) (hW : New w W) => few16_any (c := c2) (Reads.later h2 hW) hL hn2)
  go_enter Try.func3, Try.ntmps3
  go_wp2_with fail
  refine (small16_any w).mono ?_
  rintro e w1 ⟨rfl, b1⟩
  go_wp2_with fail
  refine (F.out w1 b1).mono ?_
  rintro e w1' ⟨bb, rfl, rfl⟩
  cases bb
  all_goals
    go_wp2
    go_ret
    exact ⟨rfl, b1⟩

set_option maxRecDepth 100000 in
open Go.WideShapes Go.ChangeShapes in
theorem schemaPuts_contract {H : Type} {enc : TypeId × Value → H} (W : World) (base : Nat) (args : Array Value) (ds : List (DataW H)) (ps : List MemPlace)
    (hval : ∀ (j : Nat) t v, Try.f3.params[j]? = some t → args[j]? = some v → Value.okWide Try.prog W .any base t v)
    (hA : DataW.TrodAll enc Try.prog W 0 (fun _ => true) true Try.f3.params.toList args.toList ds ps) (hlt : ∀ p ∈ ps, p.block < W.heap.size)
    (hsz : (DataW.weightsEach Try.prog Try.f3.params.toList ds).all (· ≤ reachBytes) = true) :
    Calls Try.prog 3 args W fun e W' => e = .returned (.bool true) ∧ Below W.heap.size W W' := by
  rw [Try.params3] at hA hval hsz
  obtain ⟨v0, v1, d0, d1, p0, p1, rfl, rfl, rfl, h0, h1⟩ := trodAll_two hA
  obtain ⟨A_b, c_b, b, rfl, hc_b, hm_b, hr_b, hl_b⟩ := open_B (hval 0 _ _ rfl rfl) h0 (fun p hp => hlt p (by simp [hp])) (sized_at hsz (j := 0) rfl rfl)
  -- l: v1 d1 p1 h1, hval 1
  obtain ⟨A1, c1, l1, rfl, hc1, hm1, hr1, hl1⟩ := open_Cols (hval 1 _ _ rfl rfl) h1 (fun p hp => hlt p (by simp [hp])) (sized_at hsz (j := 1) rfl rfl)
  by_cases hb : 300 < b.length
  · exact schemaPuts_big (by omega) hb hr1 (fun x hx => (hl1 x hx).2.1) (by omega)
  · exact schemaPuts_walk hr_b (by omega) hr1 (fun x hx => ⟨(hl1 x hx).1, (hl1 x hx).2.1⟩) hc1 (by omega)

end Go.Proofs.Ytpbfohgmhjadpab
