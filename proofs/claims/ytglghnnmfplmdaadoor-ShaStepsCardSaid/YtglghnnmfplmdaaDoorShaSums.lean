/- ShaSums returns true whatever comes in, and leaves all that was there as it was. -/
import Derived.Test.YtglghnnmfplmdaaDoorSmall01
import Derived.Test.YtglghnnmfplmdaaDoorConst
import Derived.Test.YtglghnnmfplmdaaDoorArr

namespace Go.Proofs.YtglghnnmfplmdaaDoor
open Go.RowKit Go.Hm
theorem eqDig (l m : List Nat) (W : World) : (binOp .eql 25 (.agg (ints .u8 (sumI l)).toArray) (.agg (ints .u8 (sumI m)).toArray)).run Tryd.prog W = .ok (.bool (sumI l == sumI m)) W :=
  run_eql_arr digarr (by kernel_rfl) (by kernel_rfl) (by kernel_rfl) (by kernel_rfl) _ _ (sumI_len l) (sumI_len m) W
set_option maxHeartbeats 2000000 in
set_option maxRecDepth 100000 in
theorem shaSums_walk {w : World} {A : Option Addr} {n c : Nat} {l : List Nat} (h : Reads w w.heap.size 1 A n (nums .u8 l)) (h8 : ∀ x ∈ l, x < 256) (hC : ConstIn w) :
    Calls Tryd.prog 3 #[.slice A n c] w (SmallPost w) := by
  obtain rfl := h.len
  have SM := Lib.hid (small01_any w hC)
  have HR := Lib.hid h
  have HC := Lib.hid hC
  have H8 := Lib.hid h8
  clear h hC h8
  go_enter Tryd.func3, Tryd.ntmps3
  go_wp2_with fail
  refine SM.out.mono ?_
  rintro e w1 ⟨rfl, b1⟩
  clear SM
  by_cases hn : 1500 < l.length
  · have d1 : decide ((1500 : Int) < (l.length : Int)) = true := by simp; omega
    go_wp2
    go_ret
    exact ⟨rfl, b1⟩
  · have d1 : decide ((1500 : Int) < (l.length : Int)) = false := by simp; omega
    obtain ⟨W2, hW2⟩ : ∃ W, W = w1.alloc (.cells #[] 5) := ⟨_, rfl⟩
    have b2 : New w1 (w1.alloc (.cells #[] 5)) := (Below.refl _ _).alloc (Nat.le_refl _) _
    have o2 : Own (w1.alloc (.cells #[] 5)) w1.heap.size 5 (.slice (some ⟨w1.heap.size, 0, none⟩) 0 0) (nums .u8 []) := Own.empty _ _
    have r2 := Reads.later HR.out (New.trans b1 b2)
    have z2 := b2.size
    clear hW2
    go_wp2_with (refine wpList_pushesN elB rfl (.tmp 11) (.tmp 12) rfl (W := w1) (B := w1.heap.size) (base := w1.heap.size) o2 r2 rfl rfl b2 (Nat.le_refl _) z2 (by omega) (by simp only [maxLen]; omega) ?_
                 intro A8 c8 w8 hc8 _ o8 g8 b8 _)
    rw [List.nil_append, Nat.zero_add] at o8
    have b08 := New.trans b1 b8
    have S8 := Lib.hid (sum_any (c := c8) o8.reads H8.out (by omega) (by omega) (HC.out.new b08))
    have O8 := Lib.hid o8
    have B8 := Lib.hid b08
    clear o2 r2 z2 b2 g8 o8 b8 b1 b08
    refine S8.out.mono ?_
    rintro e w9 ⟨rfl, b9⟩
    have hsz : (ints .u8 zero32).toArray.size = (ints .u8 (sumI l)).toArray.size := by simp [ints, zero32, sumI_len]
    have HSZ := Lib.hid hsz
    have D0 := Lib.hid (i32d (sumI_len l))
    clear hsz S8
    go_wp2_with (first | (refine wpList_store_row rfl 25 (.tmp 5) (.tmp 15) rfl w9.heap.size (ints .u8 (sumI l)).toArray rfl rfl _ _ (heap_alloc_new _ _) D0.out HSZ.out (ints_one _ _) ?_; rw [alloc_setRow]) | fail)
    obtain ⟨W5, hW5⟩ : ∃ W, W = w9.alloc (.cells (ints .u8 (sumI l)).toArray 25) := ⟨_, rfl⟩
    have c5 : New w9 W5 := by rw [hW5]; exact (Below.refl _ _).alloc (Nat.le_refl _) _
    have E5 : Blk W5 w9.heap.size 25 (ints .u8 (sumI l)).toArray := by rw [hW5]; exact Blk.new _ _ _
    have b5 := New.trans b9 c5
    have b05 := New.trans B8.out b5
    rw [← hW5]
    have HE := Lib.hid E5
    have R8 := Lib.hid (fun (W : World) (hW : New W5 W) => Reads.later O8.out.reads (New.trans b5 hW))
    have R0 := Lib.hid (fun (W : World) (hW : New W5 W) => Reads.later HR.out (New.trans b05 hW))
    have RS := Lib.hid (fun (W : World) (hW : New W5 W) => rsum_any (c := c) (Reads.later HR.out (New.trans b05 hW)) H8.out (by omega))
    have EQ := eqDig l l
    rw [show (sumI l == sumI l) = true by simp] at EQ
    have HEQ := Lib.hid EQ
    generalize w9.heap.size = E at *
    clear hW5 c5 E5 b9 HSZ EQ
    refine wp_region_up New [(true, 0), (true, 1), (true, 2), (true, 3), (false, 4), (true, 5), (true, 6), (true, 7), (true, 8), (true, 9), (true, 10), (true, 11), (true, 12), (true, 13), (true, 14)]
      New.refl New.trans (by kernel_rfl) (by kernel_rfl) (by kernel_rfl) (by kernel_rfl) ?_
    have hU := New.drew W5
    iterate 2 (
      refine up_quiet rfl rfl (v := ?_) (fun W hW => ?_) ?_
      rotate_left
      · go_simp <;> with_reducible rfl
      simp only [Act.put, List.setIfInBounds_toArray, List.set_cons_zero, List.set_cons_succ])
    refine up_quiet rfl rfl (v := .agg (ints .u8 (sumI l)).toArray) (fun W hW => exec_load_row rfl (HE.out.below (New.trans hU hW) HE.out.lt) digarr rfl D0.out) ?_
    simp only [Act.put, List.setIfInBounds_toArray, List.set_cons_zero, List.set_cons_succ]
    refine up_quiet rfl rfl (v := ?_) (fun W hW => ?_) ?_
    rotate_left
    · go_simp <;> with_reducible rfl
    simp only [Act.put, List.setIfInBounds_toArray, List.set_cons_zero, List.set_cons_succ]
    refine up_call rfl rfl (fun K hK => ?_)
    go_simp
    (with_reducible refine (RS.out _ hU).mono ?_)
    rintro e u ⟨rfl, cu⟩
    refine hK _ _ cu ?_
    clear hK
    replace hU := New.trans hU cu
    iterate 4 (
      refine up_quiet rfl rfl (v := ?_) (fun W hW => ?_) ?_
      rotate_left
      · have q := HEQ.out
        go_simp <;> with_reducible rfl
      simp only [Act.put, List.setIfInBounds_toArray, List.set_cons_zero, List.set_cons_succ])
    refine up_str (e := 5) (by kernel_rfl) (by kernel_rfl) (by kernel_rfl) rfl rfl rfl (R8.out u hU) (New.refl u) ?_
    simp only [Act.put, List.setIfInBounds_toArray, List.set_cons_zero, List.set_cons_succ]
    refine up_quiet rfl rfl (v := ?_) (fun W hW => ?_) ?_
    rotate_left
    · go_simp <;> with_reducible rfl
    simp only [Act.put, List.setIfInBounds_toArray, List.set_cons_zero, List.set_cons_succ]
    refine up_str (e := 5) (by kernel_rfl) (by kernel_rfl) (by kernel_rfl) rfl rfl rfl (R0.out u hU) (New.refl u) ?_
    simp only [Act.put, List.setIfInBounds_toArray, List.set_cons_zero, List.set_cons_succ]
    iterate 3 (
      refine up_quiet rfl rfl (v := ?_) (fun W hW => ?_) ?_
      rotate_left
      · go_simp <;> with_reducible rfl
      simp only [Act.put, List.setIfInBounds_toArray, List.set_cons_zero, List.set_cons_succ])
    refine up_nil ?_
    have bE := New.trans b05 hU
    go_wp2
    go_ret
    exact ⟨by simp, bE⟩

set_option maxRecDepth 100000 in
open Go.WideShapes Go.ChangeShapes in
theorem shaSums_contract {H : Type} {enc : TypeId × Value → H} (W : World) (base : Nat) (args : Array Value) (ds : List (DataW H)) (ps : List MemPlace)
    (hval : ∀ (j : Nat) t v, Tryd.f3.params[j]? = some t → args[j]? = some v → Value.okWide Tryd.prog W .any base t v)
    (hA : DataW.TrodAll enc Tryd.prog W 0 (fun _ => true) true Tryd.f3.params.toList args.toList ds ps) (hlt : ∀ p ∈ ps, p.block < W.heap.size)
    (hsz : (DataW.weightsEach Tryd.prog Tryd.f3.params.toList ds).all (· ≤ reachBytes) = true) (hL : laidMetH Tryd.prog laidC W) :
    Calls Tryd.prog 3 args W fun e W' => e = .returned (.bool true) ∧ Below W.heap.size W W' := by
  rw [Tryd.params3] at hA hval hsz
  obtain ⟨v0, d0, rfl, rfl, h0⟩ := trodAll_one hA
  obtain ⟨A_b, c_b, b, rfl, hc_b, hm_b, hr_b, hl_b⟩ := open_B (hval 0 _ _ rfl rfl) h0 hlt (sized_at hsz (j := 0) rfl rfl)
  exact shaSums_walk hr_b hl_b (const_of_laid hL)

end Go.Proofs.YtglghnnmfplmdaaDoor
