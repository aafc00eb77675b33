/- ShaSteps returns true whatever comes in, and leaves all that was there as it was. -/
import Derived.Test.YtglghnnmfplmdaaDoorShaSums
import Derived.Test.YtglghnnmfplmdaaDoorPairs

namespace Go.Hm
open Go Go.RowKit
theorem list8 {α : Type} {l : List α} (h : l.length = 8) : ∃ a b c d e f g i, l = [a, b, c, d, e, f, g, i] := by
  match l, h with
  | [a, b, c, d, e, f, g, i], _ => exact ⟨a, b, c, d, e, f, g, i, rfl⟩
/-- A state comes in. -/
theorem state_of {l : List Nat} (h : l.length = 8) (hm : ∀ x ∈ l, (x : Int) ≤ IntKind.u32.max) : ∃ s : S8, (nums .u32 l).toArray = cellsS s ∧ OkS s := by
  obtain ⟨a, b, c, d, e, f, g, i, rfl⟩ := list8 h
  have hU : ∀ x ∈ [a, b, c, d, e, f, g, i], U32 (x : Int) := by
    intro x hx
    have := hm x hx
    simp [IntKind.max, IntKind.signed, IntKind.bits] at this
    exact ⟨by omega, by omega⟩
  exact ⟨((a : Int), (b : Int), (c : Int), (d : Int), (e : Int), (f : Int), (g : Int), (i : Int)), rfl, hU a (by simp), hU b (by simp), hU c (by simp), hU d (by simp), hU e (by simp), hU f (by simp), hU g (by simp), hU i (by simp)⟩

end Go.Hm

namespace Go.Proofs.YtglghnnmfplmdaaDoor
open Go.RowKit Go.Hm
theorem eqState (s r : S8) (W : World) : (binOp .eql 29 (.agg (cellsS s)) (.agg (cellsS r))).run Tryd.prog W = .ok (.bool (wordsL s == wordsL r)) W := by
  rw [cellsS_words, cellsS_words]
  exact run_eql_arr u32arr (by kernel_rfl) (by kernel_rfl) (by kernel_rfl) (by kernel_rfl) _ _ rfl rfl W
set_option maxHeartbeats 2000000 in
set_option maxRecDepth 100000 in
theorem shaSteps_walk {w : World} (s : S8) (hs : OkS s) (B : List Nat) (hB : B.length = 64) (h8 : ∀ x ∈ B, x < 256) (hC : ConstIn w) :
    Calls Tryd.prog 4 #[.agg (cellsS s), .agg (nums .u8 B).toArray] w (SmallPost w) := by
  obtain ⟨W0, hW0⟩ : ∃ W, W = (w.alloc (.cells (cellsS s) 29)).alloc (.cells (nums .u8 B).toArray 30) := ⟨_, rfl⟩
  have e1 : (w.alloc (.cells (cellsS s) 29)).heap.size = w.heap.size + 1 := by simp
  have b0 : New w W0 := by rw [hW0]; exact ((Below.refl _ _).alloc (Nat.le_refl _) _).alloc (by simp) _
  have A0 : Blk W0 w.heap.size 29 (cellsS s) := by rw [hW0]; exact (Blk.new _ _ _).alloc _
  have P0 : Blk W0 (w.heap.size + 1) 30 (nums .u8 B).toArray := by rw [hW0, ← e1]; exact Blk.new _ _ _
  have SM := Lib.hid (small01_any W0 (hC.new b0))
  have CP := Lib.hid (fun (W : World) (hW : New W0 W) => compress_any (w := W) s hs B hB h8 ((hC.new b0).new hW))
  have RC := Lib.hid (fun (W : World) => rcompress_any (w := W) s hs B hB h8)
  have HI : Hid ((Tryd.prog.info? 30).map (·.size) = some (nums .u8 B).toArray.size) := Lib.hid (i64b hB)
  have HA := Lib.hid A0
  have HP := Lib.hid P0
  have HB := Lib.hid b0
  have HW := Lib.hid hW0
  have E1 := eqState (compS s B) (compS s B)
  have E2 := eqState firstS firstS
  rw [show (wordsL (compS s B) == wordsL (compS s B)) = true by simp] at E1
  rw [show (wordsL firstS == wordsL firstS) = true by simp] at E2
  have HE1 := Lib.hid E1
  have HE2 := Lib.hid E2
  clear e1 b0 A0 P0 E1 E2 hs hB h8 hC hW0
  go_enter Tryd.func4, Tryd.ntmps4
  go_wp2_with fail
  rw [← HW.out]
  refine SM.out.mono ?_
  rintro e w1 ⟨rfl, b1⟩
  clear SM HW
  go_wp2_with fail
  refine wp_region_up New [(true, 0), (true, 1), (true, 2), (true, 3), (true, 5), (true, 6), (false, 4), (false, 7), (true, 8), (true, 9), (true, 10), (false, 11), (false, 12), (true, 13), (true, 14), (true, 15)]
    New.refl New.trans (by kernel_rfl) (by kernel_rfl) (by kernel_rfl) (by kernel_rfl) ?_
  have hU := New.trans b1 (New.drew w1)
  iterate 2 (
    refine up_quiet rfl rfl (v := ?_) (fun W hW => ?_) ?_
    rotate_left
    · skip
      go_simp <;> with_reducible rfl
    simp only [Act.put, List.setIfInBounds_toArray, List.set_cons_zero, List.set_cons_succ])
  refine up_quiet rfl rfl (v := .agg (cellsS s)) (fun W hW => exec_load_row rfl (HA.out.below (New.trans hU hW) HA.out.lt) u32arr rfl (i8w _)) ?_
  simp only [Act.put, List.setIfInBounds_toArray, List.set_cons_zero, List.set_cons_succ]
  refine up_quiet rfl rfl (v := .agg (nums .u8 B).toArray) (fun W hW => exec_load_row rfl (HP.out.below (New.trans hU hW) HP.out.lt) u8arr rfl HI.out) ?_
  simp only [Act.put, List.setIfInBounds_toArray, List.set_cons_zero, List.set_cons_succ]
  refine up_quiet rfl rfl (v := .agg (cellsS s)) (fun W hW => exec_load_row rfl (HA.out.below (New.trans hU hW) HA.out.lt) u32arr rfl (i8w _)) ?_
  simp only [Act.put, List.setIfInBounds_toArray, List.set_cons_zero, List.set_cons_succ]
  refine up_quiet rfl rfl (v := .agg (nums .u8 B).toArray) (fun W hW => exec_load_row rfl (HP.out.below (New.trans hU hW) HP.out.lt) u8arr rfl HI.out) ?_
  simp only [Act.put, List.setIfInBounds_toArray, List.set_cons_zero, List.set_cons_succ]
  refine up_call rfl rfl (fun K hK => ?_)
  go_simp
  (with_reducible refine (CP.out _ hU).mono ?_)
  rintro e u ⟨rfl, cu⟩
  refine hK _ _ cu ?_
  clear hK
  replace hU := New.trans hU cu
  refine up_call rfl rfl (fun K hK => ?_)
  go_simp
  (with_reducible refine (RC.out _).mono ?_)
  rintro e u ⟨rfl, cu⟩
  refine hK _ _ cu ?_
  clear hK
  replace hU := New.trans hU cu
  iterate 3 (
    refine up_quiet rfl rfl (v := ?_) (fun W hW => ?_) ?_
    rotate_left
    · have e1 := HE1.out
      go_simp <;> with_reducible rfl
    simp only [Act.put, List.setIfInBounds_toArray, List.set_cons_zero, List.set_cons_succ])
  refine up_call rfl rfl (fun K hK => ?_)
  go_simp
  (with_reducible refine (first_any).mono ?_)
  rintro e u ⟨rfl, cu⟩
  refine hK _ _ cu ?_
  clear hK
  replace hU := New.trans hU cu
  refine up_call rfl rfl (fun K hK => ?_)
  go_simp
  (with_reducible refine (rfirst_any).mono ?_)
  rintro e u ⟨rfl, cu⟩
  refine hK _ _ cu ?_
  clear hK
  replace hU := New.trans hU cu
  iterate 3 (
    refine up_quiet rfl rfl (v := ?_) (fun W hW => ?_) ?_
    rotate_left
    · have e1 := HE2.out
      go_simp <;> with_reducible rfl
    simp only [Act.put, List.setIfInBounds_toArray, List.set_cons_zero, List.set_cons_succ])
  refine up_nil ?_
  have bE := New.trans HB.out hU
  go_wp2
  go_ret
  exact ⟨by simp, bE⟩

set_option maxRecDepth 100000 in
open Go.WideShapes Go.ChangeShapes in
theorem shaSteps_contract {H : Type} {enc : TypeId × Value → H} (W : World) (base : Nat) (args : Array Value) (ds : List (DataW H)) (ps : List MemPlace)
    (hval : ∀ (j : Nat) t v, Tryd.f4.params[j]? = some t → args[j]? = some v → Value.okWide Tryd.prog W .any base t v)
    (hA : DataW.TrodAll enc Tryd.prog W 0 (fun _ => true) true Tryd.f4.params.toList args.toList ds ps) (hlt : ∀ p ∈ ps, p.block < W.heap.size)
    (hsz : (DataW.weightsEach Tryd.prog Tryd.f4.params.toList ds).all (· ≤ reachBytes) = true) (hL : laidMetH Tryd.prog laidC W) :
    Calls Tryd.prog 4 args W fun e W' => e = .returned (.bool true) ∧ Below W.heap.size W W' := by
  rw [Tryd.params4] at hA hval hsz
  obtain ⟨v0, v1, d0, d1, p0, p1, rfl, rfl, rfl, h0, h1⟩ := trodAll_two hA
  -- a: v0 d0 p0 h0, hval 0
  -- b: v1 d1 p1 h1, hval 1
  obtain ⟨l, rfl, hl, hm⟩ := open_arr_nums (k := .u32) (n := 8) u32arr (by kernel_rfl) rfl (by kernel_rfl) (by kernel_rfl) (hval 0 _ _ rfl rfl) h0
  obtain ⟨B, rfl, hB, hM⟩ := open_arr_nums (k := .u8) (n := 64) u8arr (by kernel_rfl) rfl (by kernel_rfl) (by kernel_rfl) (hval 1 _ _ rfl rfl) h1
  obtain ⟨s, hs, ok⟩ := state_of hl hm
  rw [hs]
  exact shaSteps_walk s ok B hB (fun x hx => by have := hM x hx; simp [IntKind.max, IntKind.signed, IntKind.bits] at this; omega) (const_of_laid hL)

end Go.Proofs.YtglghnnmfplmdaaDoor
