/- CursorLays returns true whatever comes in, and leaves all that was there as it was. -/
import Derived.Test.YtghfdbnbgkpnaaaRefC
import Derived.Test.YtghfdbnbgkpnaaaSmallC
import Derived.Test.YtghfdbnbgkpnaaaUp
import Derived.Test.YtghfdbnbgkpnaaaOpen
import Derived.Deep.DeepCutAuto
namespace Go.Proofs.Ytghfdbnbgkpnaaa
open Go.RowKit Go.Hm

def TruePost (w : World) (e : Ending) (w' : World) : Prop := e = .returned (.bool true) ∧ Below w.heap.size w w'

set_option maxHeartbeats 1000000 in
set_option maxRecDepth 100000 in
theorem cursorLays_walk {w : World} {A : Option Addr} {n c x y : Nat} {l : List Nat} (h : Reads w w.heap.size 1 A n (nums .u8 l)) (hx : x ≤ 4294967295) (hy : y ≤ 18446744073709551615) (hn : n ≤ 500) :
    Calls Try.prog 4 #[.slice A n c, .int .u32 (x : Int), .int .u64 (y : Int)] w (TruePost w) := by
  obtain rfl := h.len
  go_enter Try.func4, Try.ntmps4
  go_wp2_with (first
    | (go_at_call 20; refine (small03_any w).mono ?_; rintro e w1 ⟨rfl, b1⟩
       have z1 := b1.size)
    | (refine wpList_mk elB rfl (.tmp 19) (.tmp 22) rfl (W := w) (B := w.heap.size) l.length (l.length + 20) rfl rfl rfl (by simp) (by omega) b1 z1 rfl (by omega) (by simp only [maxLen]; omega) ?_
       intro w2 o2 g2 b2 s2
       have r2 := h.below b2)
    | (refine wpList_cp elB rfl (.tmp 24) (.tmp 25) rfl (W := w) (B := w.heap.size) o2 (r2.more b2.size) rfl rfl l.length (Nat.min_self _) b2 z1 (nums_oneCell _ _) ?_
       intro w3 o3 g3 b3 s3
       rw [List.take_of_length_le (by rw [nums_length]; omega), List.drop_of_length_le (by simp), List.append_nil] at o3)
    | (go_at_call 34; refine (lay_u32 x o3.reads (by omega)).mono ?_; rintro e w4 ⟨A4, n4, c4, rfl, k4, b4⟩
       have b04 := b3.trans (b4.mono b3.size)
       have r4 := o3.reads.below b4)
    | (go_at_call 35; refine (lay_u64 y (r4.more b4.size) (by omega)).mono ?_; rintro e w5 ⟨A5, n5, c5, rfl, k5, b5⟩
       have b05 := b04.trans (b5.mono b04.size)
       have r5 := (k4.reads).below b5))
  have hwx : IntKind.u64.wrap (x : Int) = x := IntWalk.u64_in _ (by omega)
  refine wp_region_up New [(true, 0), (true, 1), (true, 2), (true, 3), (true, 4), (false, 5), (true, 6), (true, 7), (true, 8), (true, 9), (true, 10), (true, 11), (true, 12), (false, 13), (true, 14), (true, 15), (true, 16), (true, 17)]
    New.refl New.trans (by kernel_rfl) (by kernel_rfl) (by kernel_rfl) (by kernel_rfl) ?_
  have hU := New.drew w5
  repeat (first
    | (refine up_call rfl rfl (fun K hK => ?_); go_simp
       (first
        | (with_reducible refine (rlow4 x h (New.trans b05 hU) (by omega) (by omega)).mono ?_)
        | (with_reducible refine (rlow8 y h (New.trans b05 hU) (by omega) (by omega)).mono ?_))
       rintro e w6 ⟨A6, n6, c6, rfl, k6, b6⟩
       refine hK _ _ b6 ?_
       clear hK
       replace hU := New.trans hU b6
       have r6 := k6.reads)
    | (refine up_str elB.ht (by kernel_rfl) (by kernel_rfl) rfl rfl rfl r6 (New.refl _) ?_; simp only [Act.put, List.setIfInBounds_toArray, List.set_cons_zero, List.set_cons_succ])
    | (refine up_str elB.ht (by kernel_rfl) (by kernel_rfl) rfl rfl rfl k5.reads hU ?_; simp only [Act.put, List.setIfInBounds_toArray, List.set_cons_zero, List.set_cons_succ])
    | (refine up_str elB.ht (by kernel_rfl) (by kernel_rfl) rfl rfl rfl (r5.more b5.size) hU ?_; simp only [Act.put, List.setIfInBounds_toArray, List.set_cons_zero, List.set_cons_succ])
    | (refine up_quiet rfl rfl (v := ?_) (fun W hW => ?_) ?_; rotate_left; (go_simp <;> with_reducible rfl); simp only [Act.put, List.setIfInBounds_toArray, List.set_cons_zero, List.set_cons_succ]))
  refine up_nil ?_
  go_wp2
  have hU6 : New w5 w6 := hU
  have q4 : n4 ≤ 600 := by have := k4.len; rw [nums_length, List.length_append, low_len] at this; omega
  have z5 := b05.size
  have z6 := hU6.size
  have x4 : Own w6 w3.heap.size 5 (.slice A4 n4 c4) (nums .u8 (l ++ low x 4)) := (k4.below b5 (Nat.le_refl _)).below hU6 (Nat.le_refl _)
  have f6 : Below w3.heap.size w3 w6 := New.trans (New.trans b4 b5) hU6
  have lt4 := k4.lt
  have lt5 := k5.lt
  have y6 : Reads w6 w6.heap.size 1 A5 n5 (nums .u8 (l ++ low y 8)) := (k5.reads.below hU6).more z6
  clear r6 k6 b6 hU r5 r4 r2 k4 k5 hwx
  go_loopw [12] (fun i wr => ∃ (k : Nat) (X : List Value), i = .int .i64 (k : Int) ∧ k ≤ n4 ∧ Own wr w3.heap.size 5 (.slice A4 n4 c4) X ∧ w6.grownBy wr (Value.ownBlock (.slice A4 n4 c4)) ∧ Below w3.heap.size w3 wr) (fun i _ => n4 - (intOf i).toNat)
  case atStart => exact ⟨0, _, rfl, by omega, x4, World.grownBy.refl _ _, f6⟩
  case round =>
    obtain ⟨k, X, rfl, hk, hown, hg, hb⟩ := hrel
    by_cases hlt : k < n4
    · obtain ⟨g, u, rfl, hgb, hgl, hu, hcell, hfro, hset⟩ := hown.at_ hlt
      have Hu := Lib.hid hu
      clear hu
      go_wp2
      go_roundw
      case rel => exact ⟨k + 1, _, by go_num, by omega, hset _, hg.trans setCell_grown, hb.setCell hgb _⟩
      case measure => simp [intOf]; omega
    · have hz := hb.size
      have y7 : Reads wr wr.heap.size 1 A5 n5 (nums .u8 (l ++ low y 8)) := y6.grown_far hg (by
        intro ad g e1 e2 e3
        subst e1
        have h1 := (lt5 ad.block rfl).1
        have h2 := (lt4 g e2).2
        omega)
      have b07 : New w wr := Below.trans b3 (hb.mono b3.size)
      go_wp2
      refine wp_region_up New [(true, 0), (true, 1), (true, 2), (true, 3), (true, 4), (true, 5), (true, 6), (true, 7), (true, 8), (true, 9), (true, 10), (true, 11), (true, 12), (true, 13), (true, 14), (true, 15), (false, 16), (true, 17), (true, 18), (true, 19), (true, 20)]
        New.refl New.trans (by kernel_rfl) (by kernel_rfl) (by kernel_rfl) (by kernel_rfl) ?_
      have hU := New.drew wr
      repeat (first
        | (refine up_call rfl rfl (fun K hK => ?_); go_simp
           (with_reducible refine (rlow8 y h (New.trans b07 hU) (by omega) (by omega)).mono ?_)
           rintro e w8 ⟨A8, n8, c8, rfl, k8, b8⟩
           refine hK _ _ b8 ?_
           clear hK
           replace hU := New.trans hU b8
           have r8 := k8.reads)
        | (refine up_str elB.ht (by kernel_rfl) (by kernel_rfl) rfl rfl rfl r8 (New.refl _) ?_; simp only [Act.put, List.setIfInBounds_toArray, List.set_cons_zero, List.set_cons_succ])
        | (refine up_str elB.ht (by kernel_rfl) (by kernel_rfl) rfl rfl rfl o3.reads (New.trans hb hU) ?_; simp only [Act.put, List.setIfInBounds_toArray, List.set_cons_zero, List.set_cons_succ])
        | (refine up_str elB.ht (by kernel_rfl) (by kernel_rfl) rfl rfl rfl h (New.trans b07 hU) ?_; simp only [Act.put, List.setIfInBounds_toArray, List.set_cons_zero, List.set_cons_succ])
        | (refine up_str elB.ht (by kernel_rfl) (by kernel_rfl) rfl rfl rfl y7 hU ?_; simp only [Act.put, List.setIfInBounds_toArray, List.set_cons_zero, List.set_cons_succ])
        | (refine up_quiet rfl rfl (v := ?_) (fun W hW => ?_) ?_; rotate_left; (go_simp <;> with_reducible rfl); simp only [Act.put, List.setIfInBounds_toArray, List.set_cons_zero, List.set_cons_succ]))
      refine up_nil ?_
      go_wp2
      go_ret
      exact ⟨rfl, New.trans b07 hU⟩

set_option maxHeartbeats 400000 in
theorem cursorLays_big {w : World} {A : Option Addr} {n c x y : Nat} (hn : 500 < n) (hm : n ≤ 9223372036854775807) :
    Calls Try.prog 4 #[.slice A n c, .int .u32 (x : Int), .int .u64 (y : Int)] w (TruePost w) := by
  go_enter Try.func4, Try.ntmps4
  go_wp2_with (go_at_call 20; refine (small03_any w).mono ?_; rintro e w1 ⟨rfl, b1⟩)
  go_ret
  exact ⟨rfl, b1⟩

open Go.WideShapes Go.ChangeShapes in
theorem cursorLays_contract {H : Type} {enc : TypeId × Value → H} (W : World) (base : Nat) (args : Array Value) (ds : List (DataW H)) (ps : List MemPlace)
    (hval : ∀ (j : Nat) t v, Try.f4.params[j]? = some t → args[j]? = some v → Value.okWide Try.prog W .any base t v)
    (hA : DataW.TrodAll enc Try.prog W 0 (fun _ => true) true Try.f4.params.toList args.toList ds ps) (hlt : ∀ p ∈ ps, p.block < W.heap.size)
    (hsz : (DataW.weightsEach Try.prog Try.f4.params.toList ds).all (· ≤ reachBytes) = true) :
    Calls Try.prog 4 args W fun e W' => e = .returned (.bool true) ∧ Below W.heap.size W W' := by
  rw [Try.params4] at hA hval hsz
  obtain ⟨v0, v1, v2, d0, d1, d2, p0, p1, p2, rfl, rfl, rfl, h0, h1, h2⟩ := trodAll_three hA
  obtain ⟨A, c, l, rfl, hc, hm, hr, h8⟩ := open_B (hval 0 _ _ rfl rfl) h0 (fun p hp => hlt p (by simp [hp])) (sized_at hsz (j := 0) rfl rfl)
  obtain ⟨x, rfl, wx⟩ := open_u32 (hval 1 _ _ rfl rfl) h1
  obtain ⟨y, rfl, wy⟩ := open_u64 (hval 2 _ _ rfl rfl) h2
  by_cases hn : l.length ≤ 500
  · exact cursorLays_walk hr wx wy hn
  · exact cursorLays_big (by omega) (by omega)

end Go.Proofs.Ytghfdbnbgkpnaaa
