/- VarintPuts returns true whatever comes in, and leaves all that was there as it was. -/
import Derived.Test.YtghfdbnbgkpnaaaRefV
import Derived.Test.YtghfdbnbgkpnaaaSmallV
import Derived.Test.YtghfdbnbgkpnaaaVarintZigs
namespace Go.Proofs.Ytghfdbnbgkpnaaa
open Go.RowKit Go.Hm

set_option maxHeartbeats 1000000 in
set_option maxRecDepth 100000 in
theorem varintPuts_walk {w : World} {A : Option Addr} {n c x : Nat} {m : Int} {l : List Nat} (h : Reads w w.heap.size 1 A n (nums .u8 l)) (hx : x < 18446744073709551616) (hm : -9223372036854775808 ≤ m) (hm1 : m ≤ 9223372036854775807) (hn : n ≤ 500) :
    Calls Try.prog 9 #[.slice A n c, .int .u64 (x : Int), .int .i64 m] w (SmallPost w) := by
  obtain rfl := h.len
  have hv10 := vp_len10 hx
  obtain ⟨V, hV⟩ : ∃ V, V = vp x := ⟨_, rfl⟩
  rw [← hV] at hv10
  have HV := Lib.hid hV
  clear hV
  go_enter Try.func9, Try.ntmps9
  go_wp2_with (first
    | (go_at_call 37; refine (small04_any w).mono ?_; rintro e w1 ⟨rfl, b1⟩
       have z1 := b1.size)
    | (refine wpList_mk elB rfl (.tmp 18) (.tmp 21) rfl (W := w) (B := w.heap.size) l.length (l.length + 20) rfl rfl rfl (by simp) (by omega) b1 z1 rfl (by omega) (by simp only [maxLen]; omega) ?_
       intro w2 o2 g2 b2 s2
       have r2 := h.below b2)
    | (refine wpList_cp elB rfl (.tmp 23) (.tmp 24) rfl (W := w) (B := w.heap.size) o2 (r2.more b2.size) rfl rfl l.length (Nat.min_self _) b2 z1 (nums_oneCell _ _) ?_
       intro w3 o3 g3 b3 s3
       rw [List.take_of_length_le (by rw [nums_length]; omega), List.drop_of_length_le (by simp), List.append_nil] at o3)
    | (go_at_call 38; refine (put_any _ _ _ _ x _ o3.reads (by omega) (by omega)).mono ?_; rintro e w4 ⟨A4, n4, c4, rfl, k4, b4⟩
       rw [← HV.out] at k4
       have b04 := b3.trans (b4.mono b3.size)
       have r4 := o3.reads.below b4))
  have q4 : n4 ≤ 600 := by have := k4.len; rw [nums_length, List.length_append] at this; omega
  refine wp_region_up New [(true, 0), (true, 1), (true, 2), (true, 3), (false, 4), (true, 5), (true, 6), (true, 7)]
    New.refl New.trans (by kernel_rfl) (by kernel_rfl) (by kernel_rfl) (by kernel_rfl) ?_
  have hU := New.drew w4
  have RP : Calls Try.prog 39 #[.slice A l.length c, .int .u64 (x : Int)] w4.drew (BytesPost (l ++ V) w4.drew) := by
    rw [HV.out]
    exact rput_any x ((h.below (New.trans b04 hU)).more (New.trans b04 hU).size) (by omega) (by omega)
  have RP := Lib.hid RP
  repeat (first
    | (refine up_call rfl rfl (fun K hK => ?_); go_simp
       (with_reducible refine RP.out.mono ?_)
       rintro e w6 ⟨A6, n6, c6, rfl, k6, b6⟩
       refine hK _ _ b6 ?_
       clear hK
       replace hU := New.trans hU b6
       have r6 := k6.reads)
    | (refine up_str elB.ht (by kernel_rfl) (by kernel_rfl) rfl rfl rfl r6 (New.refl _) ?_; simp only [Act.put, List.setIfInBounds_toArray, List.set_cons_zero, List.set_cons_succ])
    | (refine up_str elB.ht (by kernel_rfl) (by kernel_rfl) rfl rfl rfl k4.reads hU ?_; simp only [Act.put, List.setIfInBounds_toArray, List.set_cons_zero, List.set_cons_succ])
    | (refine up_quiet rfl rfl (v := ?_) (fun W hW => ?_) ?_; rotate_left; (go_simp <;> with_reducible rfl); simp only [Act.put, List.setIfInBounds_toArray, List.set_cons_zero, List.set_cons_succ]))
  refine up_nil ?_
  go_wp2
  have hU6 : New w4 w6 := hU
  have z4 := b04.size
  have z6 := hU6.size
  have x4 : Own w6 w3.heap.size 5 (.slice A4 n4 c4) (nums .u8 (l ++ V)) := k4.below hU6 (Nat.le_refl _)
  have f6 : Below w3.heap.size w3 w6 := New.trans b4 hU6
  clear r6 k6 b6 hU r4 r2 k4 RP
  go_loopw [11] (fun i wr => ∃ (k : Nat) (X : List Value), i = .int .i64 (k : Int) ∧ k ≤ n4 ∧ Own wr w3.heap.size 5 (.slice A4 n4 c4) X ∧ Below w3.heap.size w3 wr) (fun i _ => n4 - (intOf i).toNat)
  case atStart => exact ⟨0, _, rfl, by omega, x4, f6⟩
  case round =>
    obtain ⟨k, X, rfl, hk, hown, hb⟩ := hrel
    by_cases hlt : k < n4
    · obtain ⟨g, u, rfl, hgb, hgl, hu, hcell, hfro, hset⟩ := hown.at_ hlt
      have Hu := Lib.hid hu
      clear hu
      go_wp2
      go_roundw
      case rel => exact ⟨k + 1, _, by go_num, by omega, hset _, hb.setCell hgb _⟩
      case measure => simp [intOf]; omega
    · have hz := hb.size
      have b07 : New w wr := Below.trans b3 (hb.mono b3.size)
      have S1 := run_strB (c := l.length + 20) (o3.reads.below hb)
      have S2 := run_strB (c := c) (h.below b07)
      have Z1 := Lib.hid (size_any x wr hx)
      have Z2 := Lib.hid (rsize_any x wr hx)
      have Z3 := Lib.hid (zig_any m wr hm hm1)
      have Z4 := Lib.hid (rzig_any m wr hm hm1)
      have Z5 := Lib.hid (zag_any x wr hx)
      have Z6 := Lib.hid (rzag_any x wr hx)
      go_wp2_with (first
        | (go_at_call 40; refine Z1.out.mono ?_; rintro e w7 ⟨rfl, rfl⟩
           rw [← HV.out])
        | (go_at_call 41; refine Z2.out.mono ?_; rintro e w7 ⟨rfl, rfl⟩
           rw [← HV.out])
        | (go_at_call 42; refine Z3.out.mono ?_; rintro e w7 ⟨rfl, rfl⟩)
        | (go_at_call 43; refine Z4.out.mono ?_; rintro e w7 ⟨rfl, rfl⟩)
        | (go_at_call 44; refine Z5.out.mono ?_; rintro e w7 ⟨rfl, rfl⟩)
        | (go_at_call 45; refine Z6.out.mono ?_; rintro e w7 ⟨rfl, rfl⟩))
      go_ret
      exact ⟨rfl, b07⟩

set_option maxHeartbeats 400000 in
theorem varintPuts_big {w : World} {A : Option Addr} {n c x : Nat} {m : Int} (hn : 500 < n) (hm : n ≤ 9223372036854775807) :
    Calls Try.prog 9 #[.slice A n c, .int .u64 (x : Int), .int .i64 m] w (SmallPost w) := by
  go_enter Try.func9, Try.ntmps9
  go_wp2_with (go_at_call 37; refine (small04_any w).mono ?_; rintro e w1 ⟨rfl, b1⟩)
  go_ret
  exact ⟨rfl, b1⟩

open Go.WideShapes Go.ChangeShapes in
theorem varintPuts_contract {H : Type} {enc : TypeId × Value → H} (W : World) (base : Nat) (args : Array Value) (ds : List (DataW H)) (ps : List MemPlace)
    (hval : ∀ (j : Nat) t v, Try.f9.params[j]? = some t → args[j]? = some v → Value.okWide Try.prog W .any base t v)
    (hA : DataW.TrodAll enc Try.prog W 0 (fun _ => true) true Try.f9.params.toList args.toList ds ps) (hlt : ∀ p ∈ ps, p.block < W.heap.size)
    (hsz : (DataW.weightsEach Try.prog Try.f9.params.toList ds).all (· ≤ reachBytes) = true) :
    Calls Try.prog 9 args W fun e W' => e = .returned (.bool true) ∧ Below W.heap.size W W' := by
  rw [Try.params9] at hA hval hsz
  obtain ⟨v0, v1, v2, d0, d1, d2, p0, p1, p2, rfl, rfl, rfl, h0, h1, h2⟩ := trodAll_three hA
  obtain ⟨A, c, l, rfl, hc, hm, hr, h8⟩ := open_B (hval 0 _ _ rfl rfl) h0 (fun p hp => hlt p (by simp [hp])) (sized_at hsz (j := 0) rfl rfl)
  obtain ⟨x, rfl, wx⟩ := open_u64 (hval 1 _ _ rfl rfl) h1
  obtain ⟨m, rfl, wm, wm1⟩ := open_i64 (hval 2 _ _ rfl rfl) h2
  by_cases hn : l.length ≤ 500
  · exact varintPuts_walk hr (by omega) wm wm1 hn
  · exact varintPuts_big (by omega) (by omega)
end Go.Proofs.Ytghfdbnbgkpnaaa
