/- The small case of layer 1's statements. -/
import Derived.Test.YtglghnnmfplmdaaDoorShaX
import Derived.Test.YtglghnnmfplmdaaDoorShaE
import Derived.Test.YtglghnnmfplmdaaDoorOpen
import Derived.Lib.SmallJoins

namespace Go.Proofs.YtglghnnmfplmdaaDoor
open Go.RowKit Go.Hm
theorem Reads.litM (w : World) (e : TypeId) (fr : Nat × Nat) (cs : Array Value) (n : Nat) (xs : List Value) (h : cs.toList = xs) (hn : n = xs.length) : Reads (w.alloc (.cells cs e fr)) (w.alloc (.cells cs e fr)).heap.size 1 (some ⟨w.heap.size, 0, none⟩) n xs := by
  subst hn
  refine ⟨by simp, fun _ => ⟨_, rfl, by simp, ?_⟩⟩
  have := World.news_of_block (heap_alloc_new w (.cells cs e fr))
  rwa [h] at this
theorem s1f (W : World) : Calls Tryd.prog 13 #[] W (NewPost (.agg #[.int .u32 1779033703, .int .u32 3144134277, .int .u32 1013904242, .int .u32 2773480762, .int .u32 1359893119, .int .u32 2600822924, .int .u32 528734635, .int .u32 1541459225]) W) := first_any
theorem sumI_len (l : List Nat) : (sumI l).length = 32 := digI_len _
theorem BytesPost.u {l : List Nat} {w w' : World} {e : Ending} (h : BytesPost l w e w') : ∃ A c, e = .returned (.slice A l.length c) ∧ Own w' w.heap.size 5 (.slice A l.length c) (nums .u8 l) ∧ New w w' := by
  obtain ⟨A, n, c, rfl, o, b⟩ := h
  obtain rfl := o.reads.len
  exact ⟨A, c, rfl, o, b⟩
set_option maxHeartbeats 4000000 in
set_option maxRecDepth 100000 in
theorem small01_any (w : World) (hC : ConstIn w) : Calls Tryd.prog 8 #[] w (SmallPost w) := by
  have S1 := Lib.hid (sum_any (w := w) (A := none) (n := 0) (c := 0) (l := []) Reads.none_ (by simp) (by omega) (by omega) hC)
  have HC := Lib.hid hC
  have d0 := fun (l : List Nat) => i32d (sumI_len l)
  have D0 := Lib.hid d0
  clear hC d0
  go_enter Tryd.func8, Tryd.ntmps8
  go_wp2_with fail
  refine S1.out.mono ?_
  rintro e w1 ⟨rfl, b1⟩
  have hsz : ∀ l : List Nat, (ints .u8 zero32).toArray.size = (ints .u8 (sumI l)).toArray.size := fun l => by simp [ints, zero32, sumI_len]
  have HSZ := Lib.hid hsz
  clear hsz S1
  have kc := Joins.run_convert_bytes_const_at (P := Tryd.prog) (w1.alloc (.cells (ints .u8 (sumI [])).toArray 25)) 22 5 #[.int .u8 97, .int .u8 98, .int .u8 99] 3 3 (w1.heap.size + 1) (by simp) elB.ht (by kernel_rfl)
  go_wp2_with (first | (refine wpList_store_row rfl 25 (.tmp 1) (.tmp 5) rfl w1.heap.size (ints .u8 (sumI [])).toArray rfl rfl _ _ (heap_alloc_new _ _) (D0.out _) (HSZ.out _) (ints_one _ _) ?_; rw [alloc_setRow]) | fail)
  obtain ⟨W2, hW2⟩ : ∃ W, W = w1.alloc (.cells (ints .u8 (sumI [])).toArray 25) := ⟨_, rfl⟩
  have c2 : New w1 W2 := by rw [hW2]; exact (Below.refl _ _).alloc (Nat.le_refl _) _
  have E2 : Blk W2 w1.heap.size 25 (ints .u8 (sumI [])).toArray := by rw [hW2]; exact Blk.new _ _ _
  have z2 : W2.heap.size = w1.heap.size + 1 := by rw [hW2]; simp
  rw [← hW2, ← z2]
  have b2 := New.trans b1 c2
  generalize w1.heap.size = g1 at *
  have r3 : Reads (W2.alloc (.cells #[.int .u8 97, .int .u8 98, .int .u8 99] 5 (3, 4))) (W2.alloc (.cells #[.int .u8 97, .int .u8 98, .int .u8 99] 5 (3, 4))).heap.size 1 (some ⟨W2.heap.size, 0, none⟩) 3 (nums .u8 [97, 98, 99]) := Reads.litM W2 5 (3, 4) _ 3 _ rfl rfl
  have c3 : New W2 (W2.alloc (.cells #[.int .u8 97, .int .u8 98, .int .u8 99] 5 (3, 4))) := (Below.refl _ _).alloc (Nat.le_refl _) _
  have S3 := Lib.hid (sum_any (c := 3) r3 (by simp) (by omega) (by omega) (HC.out.new (New.trans b2 c3)))
  have HC3 := Lib.hid c3
  clear hW2 r3 c3 c2 kc z2
  refine S3.out.mono ?_
  rintro e w4 ⟨rfl, b4⟩
  have b24 := New.trans HC3.out b4
  clear S3 HC3 b4
  go_wp2_with (first | (refine wpList_store_row rfl 25 (.tmp 2) (.tmp 8) rfl w4.heap.size (ints .u8 (sumI [97, 98, 99])).toArray rfl rfl _ _ (heap_alloc_new _ _) (D0.out _) (HSZ.out _) (ints_one _ _) ?_; rw [alloc_setRow]) | fail)
  obtain ⟨W5, hW5⟩ : ∃ W, W = w4.alloc (.cells (ints .u8 (sumI [97, 98, 99])).toArray 25) := ⟨_, rfl⟩
  have c5 : New w4 W5 := by rw [hW5]; exact (Below.refl _ _).alloc (Nat.le_refl _) _
  have E5 : Blk W5 w4.heap.size 25 (ints .u8 (sumI [97, 98, 99])).toArray := by rw [hW5]; exact Blk.new _ _ _
  rw [← hW5]
  have b25 := New.trans b24 c5
  have b5 := New.trans b2 b25
  generalize w4.heap.size = g2 at *
  clear hW5
  go_wp2_with fail
  refine (pad_any (w := W5) 55).mono ?_
  rintro e w6 h
  obtain ⟨A6, c6, rfl, o6, b6⟩ := h.u
  have O6 := Lib.hid o6
  clear h o6
  go_wp2_with fail
  refine (pad_any (w := w6) 56).mono ?_
  rintro e w7 h
  obtain ⟨A7, c7, rfl, o7, b7⟩ := h.u
  have o6 := O6.out
  clear h c5 b24 b1 O6
  have b57 := New.trans b6 b7
  have E2' := E2.below (New.trans b25 b57) E2.lt
  have E5' := E5.below b57 E5.lt
  have r6 := Reads.later o6.reads b7
  obtain ⟨a6, rfl, _, p0⟩ := r6.num (i := 0) (by decide)
  obtain ⟨a6', h6, _, p8⟩ := r6.num (i := 8) (by decide)
  obtain rfl := Option.some.inj h6
  have q0 := blk_cell (i := 0) E2' (by rw [sumI_len]; omega)
  have q3 := blk_cell (i := 3) E2' (by rw [sumI_len]; omega)
  have q4 := blk_cell (i := 0) E5' (by rw [sumI_len]; omega)
  have q5 := blk_cell (i := 31) E5' (by rw [sumI_len]; omega)
  rw [sum_nil0] at q0
  rw [sum_nil3] at q3
  rw [sum_abc0] at q4
  rw [sum_abc31] at q5
  rw [show (padO 55).getD 0 0 = 128 from by decide, add_zero'] at p0
  rw [show (padO 55).getD 8 0 = 184 from by decide] at p8
  have p8 : w7.cell? ⟨a6.block, a6.off + 8, none⟩ = some (.int .u8 184) := p8
  have bE := New.trans b5 b57
  have HB := Lib.hid bE
  have P1 := Lib.hid (show ∀ W : World, Calls Tryd.prog 15 #[.int .i64 (-1)] W (BytesPost [] W) from fun W => pad_any (w := W) (-1))
  rw [show (padO 55).length = 9 from by decide]
  rw [show (padO 56).length = 72 from by decide]
  clear o6 o7 r6 E2 E5 E2' E5' b2 b5 b6 b7 b25 b57 bE D0 HSZ HC h6
  go_wp2_with fail
  refine (P1.out _).mono ?_
  rintro e w8 h
  obtain ⟨A8, c8, rfl, _, b8⟩ := h.u
  clear h P1 p0 p8 q0 q3 q4 q5
  go_wp2_with fail
  refine (s1f _).mono ?_
  rintro e w9 ⟨rfl, b9⟩
  have bF := New.trans HB.out (New.trans b8 b9)
  clear b8 b9 HB
  have ix : ∀ w : World, (Instr.index 29 (.agg #[.int .u32 1779033703, .int .u32 3144134277, .int .u32 1013904242, .int .u32 2773480762, .int .u32 1359893119, .int .u32 2600822924, .int .u32 528734635, .int .u32 1541459225]) (.int .i64 7)).run Tryd.prog w = .ok (.int .u32 1541459225) w := fun _ => by kernel_rfl
  go_wp2
  go_ret
  exact ⟨rfl, bF⟩

end Go.Proofs.YtglghnnmfplmdaaDoor
