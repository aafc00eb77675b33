/- ShaLong returns true whatever comes in, and leaves all that was there as it was. -/
import Derived.Test.YtglghnnmfplmdaaDoorShaSums

namespace Go.Proofs.YtglghnnmfplmdaaDoor
open Go.RowKit Go.Hm
set_option maxHeartbeats 2000000 in
set_option maxRecDepth 100000 in
theorem shaLong_walk {w : World} {n : Int} {x : Nat} (hx : x < 256) (hC : ConstIn w) :
    Calls Tryd.prog 7 #[.int .i64 n, .int .u8 (x : Int)] w (SmallPost w) := by
  have SM := Lib.hid (small01_any w hC)
  have HC := Lib.hid hC
  clear hC
  go_enter Tryd.func7, Tryd.ntmps7
  go_wp2_with fail
  refine SM.out.mono ?_
  rintro e w1 ⟨rfl, b1⟩
  clear SM
  by_cases h0 : n < 0
  · have d0 : decide (n < 0) = true := by simpa using h0
    go_wp2
    go_ret
    exact ⟨rfl, b1⟩
  have d0 : decide (n < 0) = false := by simpa using h0
  by_cases h1 : 400 < n
  · have d1 : decide ((400 : Int) < n) = true := by simpa using h1
    go_wp2
    go_ret
    exact ⟨rfl, b1⟩
  have d1 : decide ((400 : Int) < n) = false := by simpa using h1
  obtain ⟨N, rfl⟩ := Int.eq_ofNat_of_zero_le (show 0 ≤ n by omega)
  have hN : N ≤ 400 := by omega
  have HB1 := Lib.hid b1
  clear h0 h1
  go_wp2_with (refine wpList_mk elB rfl _ _ rfl (W := w1) (B := w1.heap.size) N N rfl rfl rfl rfl (Nat.le_refl _) (Below.refl _ _) (Nat.le_refl _) rfl (by omega) (by simp only [maxLen]; omega) ?_; intro w2 o2 g2 b2 z2)
  have O2 : Hid (Own w2 w1.heap.size 5 (.slice (some ⟨w1.heap.size, 0, none⟩) N N) (nums .u8 (List.replicate 0 x ++ List.replicate (N - 0) 0))) := Lib.hid (by
    rw [show List.replicate 0 x ++ List.replicate (N - 0) 0 = List.replicate N 0 by simp, nums_replicate]
    exact o2)
  have B2 := Lib.hid (New.trans b1 b2)
  have hg : w.heap.size ≤ w1.heap.size := b1.size
  generalize w1.heap.size = G at *
  clear o2 g2 b2 z2 b1 HB1 d0 d1
  go_loopw [7] (fun i wr => ∃ k : Nat, k ≤ N ∧ i = .int .i64 (k : Int) ∧ Hid (Own wr G 5 (.slice (some ⟨G, 0, none⟩) N N) (nums .u8 (List.replicate k x ++ List.replicate (N - k) 0))) ∧ Hid (New w wr)) (fun i _ => N - (intOf i).toNat)
  case atStart => exact ⟨0, by omega, rfl, O2, B2⟩
  case round =>
    clear O2 B2
    obtain ⟨k, hk, rfl, O, b⟩ := hrel
    by_cases hlt : k < N
    · obtain ⟨_, hltb, c0, f0, st⟩ := O.out.num0 (i := k) hlt
      have o3 := st x
      have hset : (List.replicate k x ++ List.replicate (N - k) 0).set k x = List.replicate (k + 1) x ++ List.replicate (N - (k + 1)) 0 := by
        rw [List.set_append_right _ _ (by simp), List.length_replicate, Nat.sub_self, show N - k = (N - (k + 1)) + 1 by omega, List.replicate_succ, List.set_cons_zero, List.replicate_succ']
        simp
      rw [hset] at o3
      have O3 := Lib.hid o3
      have B3 := Lib.hid (b.out.setCell (p := ⟨G, k, none⟩) hg (.int .u8 (x : Int)))
      clear st o3 O b hset
      go_wp2
      go_roundw
      case rel => exact ⟨k + 1, by omega, by go_num, O3, B3⟩
      case measure => simp [intOf]; omega
    · obtain rfl : k = N := by omega
      have o := O.out
      rw [show List.replicate k x ++ List.replicate (k - k) 0 = List.replicate k x by simp] at o
      have hall : ∀ y ∈ List.replicate k x, y < 256 := by
        intro y hy
        rw [(List.mem_replicate.1 hy).2]
        exact hx
      have S1 := Lib.hid (fun (W : World) (hW : New wr W) => sum_any (c := k) (Reads.later o.reads hW) hall (Nat.le_refl _) (by omega) ((HC.out.new b.out).new hW))
      have S2 := Lib.hid (fun (W : World) (hW : New wr W) => rsum_any (c := k) (Reads.later o.reads hW) hall (by omega))
      have EQ := eqDig (List.replicate k x) (List.replicate k x)
      rw [show (sumI (List.replicate k x) == sumI (List.replicate k x)) = true by simp] at EQ
      have HEQ := Lib.hid EQ
      generalize (ints .u8 (sumI (List.replicate k x))).toArray = cs at *
      clear o hall EQ O
      go_wp2_with fail
      refine (S1.out _ (New.refl _)).mono ?_
      rintro e u1 ⟨rfl, c1⟩
      go_wp2_with fail
      refine (S2.out _ c1).mono ?_
      rintro e u2 ⟨rfl, c2⟩
      have bE := New.trans b.out (New.trans c1 c2)
      have eq := HEQ.out
      clear c1 c2 S1 S2 HEQ b
      go_wp2
      go_ret
      exact ⟨by simp, bE⟩

set_option maxRecDepth 100000 in
open Go.WideShapes Go.ChangeShapes in
theorem shaLong_contract {H : Type} {enc : TypeId × Value → H} (W : World) (base : Nat) (args : Array Value) (ds : List (DataW H)) (ps : List MemPlace)
    (hval : ∀ (j : Nat) t v, Tryd.f7.params[j]? = some t → args[j]? = some v → Value.okWide Tryd.prog W .any base t v)
    (hA : DataW.TrodAll enc Tryd.prog W 0 (fun _ => true) true Tryd.f7.params.toList args.toList ds ps) (hlt : ∀ p ∈ ps, p.block < W.heap.size)
    (hsz : (DataW.weightsEach Tryd.prog Tryd.f7.params.toList ds).all (· ≤ reachBytes) = true) (hL : laidMetH Tryd.prog laidC W) :
    Calls Tryd.prog 7 args W fun e W' => e = .returned (.bool true) ∧ Below W.heap.size W W' := by
  rw [Tryd.params7] at hA hval hsz
  obtain ⟨v0, v1, d0, d1, p0, p1, rfl, rfl, rfl, h0, h1⟩ := trodAll_two hA
  obtain ⟨n, rfl, wn, wn'⟩ := open_i64 (hval 0 _ _ rfl rfl) h0
  obtain ⟨x, rfl, wx⟩ := open_u8 (hval 1 _ _ rfl rfl) h1
  exact shaLong_walk (by omega) (const_of_laid hL)

end Go.Proofs.YtglghnnmfplmdaaDoor
