/- Contracts on points: point.at, Add, Sub, Mul, Turn. -/
import Derived.Test.YtbphmcinbckgbaaPtC

namespace Go.Hm
open Go Go.RowKit
theorem store2 {w : World} {g : Nat} {ty : TypeId} {x y a b : Value} (h : Blk w g ty #[x, y]) : Blk ((w.setCell ⟨g, 0, none⟩ a).setCell ⟨g, 1, none⟩ b) g ty #[a, b] := by
  simpa using ((h.set_ 0 a).set_ 1 b)
theorem far_set {g i : Nat} (u : Value) (w : World) : Far g w (w.setCell ⟨g, i, none⟩ u) :=
  ⟨rfl, rfl, rfl, by simp [World.setCell], fun k _ hne => Below.heap_setCell _ _ _ _ (by rintro rfl; exact hne rfl)⟩
theorem far_set2 {g : Nat} (a b : Value) (w : World) : Far g w ((w.setCell ⟨g, 0, none⟩ a).setCell ⟨g, 1, none⟩ b) := Far.trans (far_set a w) (far_set b _)
/-- Only block g is turned, which is new: nothing that was is turned. -/
theorem New.far {w w0 w1 : World} {g : Nat} (h : New w w0) (k : Far g w0 w1) (hg : w.heap.size ≤ g) : New w w1 := Far.below h k hg (Nat.le_refl _)

end Go.Hm

namespace Go.Proofs.Ytbphmcinbckgbaa
open Go.RowKit Go.Hm
set_option maxHeartbeats 1000000 in
set_option maxRecDepth 100000 in
theorem at_any {w : World} {x y : Int} {a b : Nat} (h : RepC x y a b) (hx : -9223372036854775808 ≤ x ∧ x ≤ 9223372036854775807) (hy : -9223372036854775808 ≤ y ∧ y ≤ 9223372036854775807) :
    Calls Try.prog 25 #[.complex .f64 a b] w (NewPost (.agg #[.int .i64 x, .int .i64 y]) w) := by
  have f1 := fun w : World => run_convert_float_int (P := Try.prog) w 42 3 .f64 .i64 a _ (by kernel_rfl) (by kernel_rfl) (rep_int h.1 hx)
  have f2 := fun w : World => run_convert_float_int (P := Try.prog) w 42 3 .f64 .i64 b _ (by kernel_rfl) (by kernel_rfl) (rep_int h.2 hy)
  have b0 : New w (w.alloc (.cells #[.int .i64 x, .int .i64 y] 23)) := (Below.refl _ _).alloc (Nat.le_refl _) _
  obtain ⟨s0, s1⟩ := cells2 (Blk.new w 23 #[.int .i64 x, .int .i64 y])
  clear h hx hy
  go_enter Try.func25, Try.ntmps25
  go_wp2
  exact bodyPost_ret (v := .agg #[.int .i64 x, .int .i64 y]) (by simp [results, Try.results25, go_sem, s0, s1]) rfl ⟨rfl, b0⟩
set_option maxHeartbeats 2000000 in
set_option maxRecDepth 100000 in
theorem padd_any {w : World} {x y u v : Int} (hx : -2097152 ≤ x ∧ x ≤ 2097152) (hy : -2097152 ≤ y ∧ y ≤ 2097152) (hu : -2097152 ≤ u ∧ u ≤ 2097152) (hv : -2097152 ≤ v ∧ v ≤ 2097152) :
    Calls Try.prog 10 #[.agg #[.int .i64 x, .int .i64 y], .agg #[.int .i64 u, .int .i64 v]] w (NewPost (.agg #[.int .i64 (x + u), .int .i64 (y + v)]) w) := by
  obtain ⟨W0, hW0⟩ : ∃ W, W = ((w.alloc (.cells #[.int .i64 x, .int .i64 y] 23)).alloc (.cells #[.int .i64 u, .int .i64 v] 23)).alloc (.cells #[.int .i64 0, .int .i64 0] 23) := ⟨_, rfl⟩
  have b0 : New w W0 := by rw [hW0]; exact (((Below.refl _ _).alloc (Nat.le_refl _) _).alloc (by simp) _).alloc (by simp; omega) _
  have e1 : (w.alloc (.cells #[.int .i64 x, .int .i64 y] 23)).heap.size = w.heap.size + 1 := by simp
  have e2 : ((w.alloc (.cells #[.int .i64 x, .int .i64 y] 23)).alloc (.cells #[.int .i64 u, .int .i64 v] 23)).heap.size = w.heap.size + 1 + 1 := by simp
  have A0 : Blk W0 w.heap.size 23 #[.int .i64 x, .int .i64 y] := by rw [hW0]; exact ((Blk.new _ _ _).alloc _).alloc _
  have B0 : Blk W0 (w.heap.size + 1) 23 #[.int .i64 u, .int .i64 v] := by rw [hW0, ← e1]; exact (Blk.new _ _ _).alloc _
  have C0 : Blk W0 (w.heap.size + 1 + 1) 23 #[.int .i64 0, .int .i64 0] := by rw [hW0, ← e2]; exact Blk.new _ _ _
  have F := Lib.hid (fun (W : World) (hW : Far (w.heap.size + 1 + 1) W0 W) => And.intro (cells2 (A0.grown hW (by simp; omega))) (cells2 (B0.grown hW (by simp))))
  have HC := Lib.hid C0
  have HW := Lib.hid hW0
  have HB := Lib.hid b0
  have P1 := Lib.hid (fun (W : World) => number_any (w := W) (x := x) (y := y) (by omega) (by omega))
  have P2 := Lib.hid (fun (W : World) => number_any (w := W) (x := u) (y := v) (by omega) (by omega))
  have P3 := Lib.hid (fun (W : World) (a b c d : Nat) (h1 : RepC x y a b) (h2 : RepC u v c d) => show ∃ re im, cSumBits .add .f64 a b c d = some (re, im) ∧ ∀ W : World, Calls Try.prog 25 #[.complex .f64 re im] W (NewPost (.agg #[.int .i64 (x + u), .int .i64 (y + v)]) W) by
    obtain ⟨re, im, k1, k2⟩ := repC_add h1 h2 (by omega) (by omega)
    exact ⟨re, im, k1, fun W => at_any k2 (by omega) (by omega)⟩)
  generalize x + u = rx at *
  generalize y + v = ry at *
  clear A0 B0 C0 hW0 b0 e1 e2 hx hy hu hv
  go_enter Try.func10, Try.ntmps10
  go_wp2_with fail
  rw [← HW.out]
  refine wp_region_up (Far (w.heap.size + 1 + 1)) [(true, 0), (true, 2), (false, 1), (false, 3), (true, 4), (false, 5), (false, 6)]
    (Far.refl _) Far.trans (by kernel_rfl) (by kernel_rfl) (by kernel_rfl) (by kernel_rfl) ?_
  have hN := New.drew W0
  iterate 2 (
    refine up_quiet rfl rfl (v := ?_) (fun W hW => ?_) ?_
    rotate_left
    · obtain ⟨⟨x0, x1⟩, ⟨y0, y1⟩⟩ := F.out W (Far.trans (Far.of_new hN) hW)
      go_simp <;> with_reducible rfl
    simp only [Act.put, List.setIfInBounds_toArray, List.set_cons_zero, List.set_cons_succ])
  refine up_call rfl rfl (fun K hK => ?_)
  go_simp
  (with_reducible refine (P1.out _).mono ?_)
  rintro e w1 ⟨a, b, rfl, hr1, c1⟩
  refine hK _ _ (Far.of_new c1) ?_
  clear hK
  replace hN := New.trans hN c1
  refine up_call rfl rfl (fun K hK => ?_)
  go_simp
  (with_reducible refine (P2.out _).mono ?_)
  rintro e w2 ⟨c, d, rfl, hr2, c2⟩
  refine hK _ _ (Far.of_new c2) ?_
  clear hK
  replace hN := New.trans hN c2
  obtain ⟨re, im, k1, k2⟩ := P3.out w2 a b c d hr1 hr2
  have K2 := Lib.hid k2
  have m := fun w : World => run_complex_sum (P := Try.prog) w .add (.inl rfl) 40 .f64 a b c d re im k1
  clear k1 k2 hr1 hr2 P1 P2 P3
  refine up_quiet rfl rfl (v := ?_) (fun W hW => ?_) ?_
  rotate_left
  · go_simp <;> with_reducible rfl
  simp only [Act.put, List.setIfInBounds_toArray, List.set_cons_zero, List.set_cons_succ]
  clear m
  refine up_call rfl rfl (fun K hK => ?_)
  go_simp
  (with_reducible refine (K2.out _).mono ?_)
  rintro e w3 ⟨rfl, c3⟩
  refine hK _ _ (Far.of_new c3) ?_
  clear hK
  replace hN := New.trans hN c3
  have C3 := HC.out.below hN HC.out.lt
  obtain ⟨z0, z1⟩ := cells2 C3
  have f0 := C3.frozen 0
  have f1 := C3.frozen 1
  have S3 := Lib.hid (store2 C3 (a := .int .i64 rx) (b := .int .i64 ry))
  have hF := far_set2 (g := w.heap.size + 1 + 1) (.int .i64 rx) (.int .i64 ry) w3
  clear C3
  refine up_call rfl rfl (fun K hK => ?_)
  go_simp
  refine hK _ _ hF ?_
  clear hK z0 z1 f0 f1
  refine up_nil ?_
  obtain ⟨s0, s1⟩ := cells2 S3.out
  have bE := New.far HB.out (Far.trans (Far.of_new hN) hF) (by omega)
  clear hF S3
  go_wp2
  exact bodyPost_ret (v := .agg #[.int .i64 rx, .int .i64 ry]) (by simp [results, Try.results10, go_sem, s0, s1]) rfl ⟨rfl, bE⟩
set_option maxHeartbeats 2000000 in
set_option maxRecDepth 100000 in
theorem psub_any {w : World} {x y u v : Int} (hx : -2097152 ≤ x ∧ x ≤ 2097152) (hy : -2097152 ≤ y ∧ y ≤ 2097152) (hu : -2097152 ≤ u ∧ u ≤ 2097152) (hv : -2097152 ≤ v ∧ v ≤ 2097152) :
    Calls Try.prog 12 #[.agg #[.int .i64 x, .int .i64 y], .agg #[.int .i64 u, .int .i64 v]] w (NewPost (.agg #[.int .i64 (x - u), .int .i64 (y - v)]) w) := by
  obtain ⟨W0, hW0⟩ : ∃ W, W = ((w.alloc (.cells #[.int .i64 x, .int .i64 y] 23)).alloc (.cells #[.int .i64 u, .int .i64 v] 23)).alloc (.cells #[.int .i64 0, .int .i64 0] 23) := ⟨_, rfl⟩
  have b0 : New w W0 := by rw [hW0]; exact (((Below.refl _ _).alloc (Nat.le_refl _) _).alloc (by simp) _).alloc (by simp; omega) _
  have e1 : (w.alloc (.cells #[.int .i64 x, .int .i64 y] 23)).heap.size = w.heap.size + 1 := by simp
  have e2 : ((w.alloc (.cells #[.int .i64 x, .int .i64 y] 23)).alloc (.cells #[.int .i64 u, .int .i64 v] 23)).heap.size = w.heap.size + 1 + 1 := by simp
  have A0 : Blk W0 w.heap.size 23 #[.int .i64 x, .int .i64 y] := by rw [hW0]; exact ((Blk.new _ _ _).alloc _).alloc _
  have B0 : Blk W0 (w.heap.size + 1) 23 #[.int .i64 u, .int .i64 v] := by rw [hW0, ← e1]; exact (Blk.new _ _ _).alloc _
  have C0 : Blk W0 (w.heap.size + 1 + 1) 23 #[.int .i64 0, .int .i64 0] := by rw [hW0, ← e2]; exact Blk.new _ _ _
  have F := Lib.hid (fun (W : World) (hW : Far (w.heap.size + 1 + 1) W0 W) => And.intro (cells2 (A0.grown hW (by simp; omega))) (cells2 (B0.grown hW (by simp))))
  have HC := Lib.hid C0
  have HW := Lib.hid hW0
  have HB := Lib.hid b0
  have P1 := Lib.hid (fun (W : World) => number_any (w := W) (x := x) (y := y) (by omega) (by omega))
  have P2 := Lib.hid (fun (W : World) => number_any (w := W) (x := u) (y := v) (by omega) (by omega))
  have P3 := Lib.hid (fun (W : World) (a b c d : Nat) (h1 : RepC x y a b) (h2 : RepC u v c d) => show ∃ re im, cSumBits .sub .f64 a b c d = some (re, im) ∧ ∀ W : World, Calls Try.prog 25 #[.complex .f64 re im] W (NewPost (.agg #[.int .i64 (x - u), .int .i64 (y - v)]) W) by
    obtain ⟨re, im, k1, k2⟩ := repC_sub h1 h2 (by omega) (by omega)
    exact ⟨re, im, k1, fun W => at_any k2 (by omega) (by omega)⟩)
  generalize x - u = rx at *
  generalize y - v = ry at *
  clear A0 B0 C0 hW0 b0 e1 e2 hx hy hu hv
  go_enter Try.func12, Try.ntmps12
  go_wp2_with fail
  rw [← HW.out]
  refine wp_region_up (Far (w.heap.size + 1 + 1)) [(true, 0), (true, 2), (false, 1), (false, 3), (true, 4), (false, 5), (false, 6)]
    (Far.refl _) Far.trans (by kernel_rfl) (by kernel_rfl) (by kernel_rfl) (by kernel_rfl) ?_
  have hN := New.drew W0
  iterate 2 (
    refine up_quiet rfl rfl (v := ?_) (fun W hW => ?_) ?_
    rotate_left
    · obtain ⟨⟨x0, x1⟩, ⟨y0, y1⟩⟩ := F.out W (Far.trans (Far.of_new hN) hW)
      go_simp <;> with_reducible rfl
    simp only [Act.put, List.setIfInBounds_toArray, List.set_cons_zero, List.set_cons_succ])
  refine up_call rfl rfl (fun K hK => ?_)
  go_simp
  (with_reducible refine (P1.out _).mono ?_)
  rintro e w1 ⟨a, b, rfl, hr1, c1⟩
  refine hK _ _ (Far.of_new c1) ?_
  clear hK
  replace hN := New.trans hN c1
  refine up_call rfl rfl (fun K hK => ?_)
  go_simp
  (with_reducible refine (P2.out _).mono ?_)
  rintro e w2 ⟨c, d, rfl, hr2, c2⟩
  refine hK _ _ (Far.of_new c2) ?_
  clear hK
  replace hN := New.trans hN c2
  obtain ⟨re, im, k1, k2⟩ := P3.out w2 a b c d hr1 hr2
  have K2 := Lib.hid k2
  have m := fun w : World => run_complex_sum (P := Try.prog) w .sub (.inr rfl) 40 .f64 a b c d re im k1
  clear k1 k2 hr1 hr2 P1 P2 P3
  refine up_quiet rfl rfl (v := ?_) (fun W hW => ?_) ?_
  rotate_left
  · go_simp <;> with_reducible rfl
  simp only [Act.put, List.setIfInBounds_toArray, List.set_cons_zero, List.set_cons_succ]
  clear m
  refine up_call rfl rfl (fun K hK => ?_)
  go_simp
  (with_reducible refine (K2.out _).mono ?_)
  rintro e w3 ⟨rfl, c3⟩
  refine hK _ _ (Far.of_new c3) ?_
  clear hK
  replace hN := New.trans hN c3
  have C3 := HC.out.below hN HC.out.lt
  obtain ⟨z0, z1⟩ := cells2 C3
  have f0 := C3.frozen 0
  have f1 := C3.frozen 1
  have S3 := Lib.hid (store2 C3 (a := .int .i64 rx) (b := .int .i64 ry))
  have hF := far_set2 (g := w.heap.size + 1 + 1) (.int .i64 rx) (.int .i64 ry) w3
  clear C3
  refine up_call rfl rfl (fun K hK => ?_)
  go_simp
  refine hK _ _ hF ?_
  clear hK z0 z1 f0 f1
  refine up_nil ?_
  obtain ⟨s0, s1⟩ := cells2 S3.out
  have bE := New.far HB.out (Far.trans (Far.of_new hN) hF) (by omega)
  clear hF S3
  go_wp2
  exact bodyPost_ret (v := .agg #[.int .i64 rx, .int .i64 ry]) (by simp [results, Try.results12, go_sem, s0, s1]) rfl ⟨rfl, bE⟩
set_option maxHeartbeats 2000000 in
set_option maxRecDepth 100000 in
theorem pmul_any {w : World} {x y u v : Int} (hx : -2097152 ≤ x ∧ x ≤ 2097152) (hy : -2097152 ≤ y ∧ y ≤ 2097152) (hu : -2097152 ≤ u ∧ u ≤ 2097152) (hv : -2097152 ≤ v ∧ v ≤ 2097152) :
    Calls Try.prog 14 #[.agg #[.int .i64 x, .int .i64 y], .agg #[.int .i64 u, .int .i64 v]] w (NewPost (.agg #[.int .i64 (x * u - y * v), .int .i64 (x * v + y * u)]) w) := by
  obtain ⟨W0, hW0⟩ : ∃ W, W = ((w.alloc (.cells #[.int .i64 x, .int .i64 y] 23)).alloc (.cells #[.int .i64 u, .int .i64 v] 23)).alloc (.cells #[.int .i64 0, .int .i64 0] 23) := ⟨_, rfl⟩
  have b0 : New w W0 := by rw [hW0]; exact (((Below.refl _ _).alloc (Nat.le_refl _) _).alloc (by simp) _).alloc (by simp; omega) _
  have e1 : (w.alloc (.cells #[.int .i64 x, .int .i64 y] 23)).heap.size = w.heap.size + 1 := by simp
  have e2 : ((w.alloc (.cells #[.int .i64 x, .int .i64 y] 23)).alloc (.cells #[.int .i64 u, .int .i64 v] 23)).heap.size = w.heap.size + 1 + 1 := by simp
  have A0 : Blk W0 w.heap.size 23 #[.int .i64 x, .int .i64 y] := by rw [hW0]; exact ((Blk.new _ _ _).alloc _).alloc _
  have B0 : Blk W0 (w.heap.size + 1) 23 #[.int .i64 u, .int .i64 v] := by rw [hW0, ← e1]; exact (Blk.new _ _ _).alloc _
  have C0 : Blk W0 (w.heap.size + 1 + 1) 23 #[.int .i64 0, .int .i64 0] := by rw [hW0, ← e2]; exact Blk.new _ _ _
  have F := Lib.hid (fun (W : World) (hW : Far (w.heap.size + 1 + 1) W0 W) => And.intro (cells2 (A0.grown hW (by simp; omega))) (cells2 (B0.grown hW (by simp))))
  have q1 := sq_le hx hu
  have q2 := sq_le hy hv
  have q3 := sq_le hx hv
  have q4 := sq_le hy hu
  have HC := Lib.hid C0
  have HW := Lib.hid hW0
  have HB := Lib.hid b0
  have P1 := Lib.hid (fun (W : World) => number_any (w := W) (x := x) (y := y) (by omega) (by omega))
  have P2 := Lib.hid (fun (W : World) => number_any (w := W) (x := u) (y := v) (by omega) (by omega))
  have P3 := Lib.hid (fun (W : World) (a b c d : Nat) (h1 : RepC x y a b) (h2 : RepC u v c d) => show ∃ re im, cMulBits a b c d = some (re, im) ∧ ∀ W : World, Calls Try.prog 25 #[.complex .f64 re im] W (NewPost (.agg #[.int .i64 (x * u - y * v), .int .i64 (x * v + y * u)]) W) by
    obtain ⟨re, im, k1, k2⟩ := repC_mul h1 h2 (by omega) (by omega) (by omega) (by omega) (by omega) (by omega)
    exact ⟨re, im, k1, fun W => at_any k2 (by omega) (by omega)⟩)
  generalize x * u - y * v = rx at *
  generalize x * v + y * u = ry at *
  clear A0 B0 C0 hW0 b0 e1 e2 hx hy hu hv
  clear q1 q2 q3 q4
  go_enter Try.func14, Try.ntmps14
  go_wp2_with fail
  rw [← HW.out]
  refine wp_region_up (Far (w.heap.size + 1 + 1)) [(true, 0), (true, 2), (false, 1), (false, 3), (true, 4), (false, 5), (false, 6)]
    (Far.refl _) Far.trans (by kernel_rfl) (by kernel_rfl) (by kernel_rfl) (by kernel_rfl) ?_
  have hN := New.drew W0
  iterate 2 (
    refine up_quiet rfl rfl (v := ?_) (fun W hW => ?_) ?_
    rotate_left
    · obtain ⟨⟨x0, x1⟩, ⟨y0, y1⟩⟩ := F.out W (Far.trans (Far.of_new hN) hW)
      go_simp <;> with_reducible rfl
    simp only [Act.put, List.setIfInBounds_toArray, List.set_cons_zero, List.set_cons_succ])
  refine up_call rfl rfl (fun K hK => ?_)
  go_simp
  (with_reducible refine (P1.out _).mono ?_)
  rintro e w1 ⟨a, b, rfl, hr1, c1⟩
  refine hK _ _ (Far.of_new c1) ?_
  clear hK
  replace hN := New.trans hN c1
  refine up_call rfl rfl (fun K hK => ?_)
  go_simp
  (with_reducible refine (P2.out _).mono ?_)
  rintro e w2 ⟨c, d, rfl, hr2, c2⟩
  refine hK _ _ (Far.of_new c2) ?_
  clear hK
  replace hN := New.trans hN c2
  obtain ⟨re, im, k1, k2⟩ := P3.out w2 a b c d hr1 hr2
  have K2 := Lib.hid k2
  have m := fun w : World => run_complex_mul (P := Try.prog) w 40 a b c d re im k1
  clear k1 k2 hr1 hr2 P1 P2 P3
  refine up_quiet rfl rfl (v := ?_) (fun W hW => ?_) ?_
  rotate_left
  · go_simp <;> with_reducible rfl
  simp only [Act.put, List.setIfInBounds_toArray, List.set_cons_zero, List.set_cons_succ]
  clear m
  refine up_call rfl rfl (fun K hK => ?_)
  go_simp
  (with_reducible refine (K2.out _).mono ?_)
  rintro e w3 ⟨rfl, c3⟩
  refine hK _ _ (Far.of_new c3) ?_
  clear hK
  replace hN := New.trans hN c3
  have C3 := HC.out.below hN HC.out.lt
  obtain ⟨z0, z1⟩ := cells2 C3
  have f0 := C3.frozen 0
  have f1 := C3.frozen 1
  have S3 := Lib.hid (store2 C3 (a := .int .i64 rx) (b := .int .i64 ry))
  have hF := far_set2 (g := w.heap.size + 1 + 1) (.int .i64 rx) (.int .i64 ry) w3
  clear C3
  refine up_call rfl rfl (fun K hK => ?_)
  go_simp
  refine hK _ _ hF ?_
  clear hK z0 z1 f0 f1
  refine up_nil ?_
  obtain ⟨s0, s1⟩ := cells2 S3.out
  have bE := New.far HB.out (Far.trans (Far.of_new hN) hF) (by omega)
  clear hF S3
  go_wp2
  exact bodyPost_ret (v := .agg #[.int .i64 rx, .int .i64 ry]) (by simp [results, Try.results14, go_sem, s0, s1]) rfl ⟨rfl, bE⟩
/-- A point, turned so often. -/
def turnI : Nat → Int × Int → Int × Int
  | 0, p => p
  | k + 1, p => (-(turnI k p).2, (turnI k p).1)
theorem turn_near (k : Nat) (p : Int × Int) (h1 : -2097152 ≤ p.1 ∧ p.1 ≤ 2097152) (h2 : -2097152 ≤ p.2 ∧ p.2 ≤ 2097152) : (-2097152 ≤ (turnI k p).1 ∧ (turnI k p).1 ≤ 2097152) ∧ (-2097152 ≤ (turnI k p).2 ∧ (turnI k p).2 ≤ 2097152) := by
  induction k with
  | zero => exact ⟨h1, h2⟩
  | succ k ih => simp only [turnI]; omega
theorem rep_one : Rep 1 4607182418800017408 := by
  have := rep_ofInt 1 (by decide)
  rwa [show floatOfInt .f64 1 = 4607182418800017408 from by decide +kernel] at this
theorem rep_zero : Rep 0 0 := by
  have := rep_ofInt 0 (by decide)
  rwa [show floatOfInt .f64 0 = 0 from by decide +kernel] at this
theorem rep_turn {k : Nat} {p : Int × Int} {a b : Nat} (h : RepC (turnI k p).1 (turnI k p).2 a b) (h1 : -2097152 ≤ p.1 ∧ p.1 ≤ 2097152) (h2 : -2097152 ≤ p.2 ∧ p.2 ≤ 2097152) :
    ∃ re im, cMulBits a b 0 4607182418800017408 = some (re, im) ∧ RepC (turnI (k + 1) p).1 (turnI (k + 1) p).2 re im := by
  obtain ⟨n1, n2⟩ := turn_near k p h1 h2
  obtain ⟨re, im, e1, e2⟩ := repC_mul h ⟨rep_zero, rep_one⟩ (by omega) (by omega) (by omega) (by omega) (by omega) (by omega)
  refine ⟨re, im, e1, ?_⟩
  simpa [turnI] using e2
theorem i64_and3 (n : Int) : bits .and .i64 n 3 = n % 4 := by
  show IntKind.i64.wrap ((BitVec.ofInt 64 n &&& BitVec.ofInt 64 3).toNat : Int) = _
  have h3 : (BitVec.ofInt 64 3).toNat = 2 ^ 2 - 1 := by decide
  rw [BitVec.toNat_and, h3, Nat.and_two_pow_sub_one_eq_mod, BitVec.toNat_ofInt, IntKind.wrap_i64]
  omega
set_option maxHeartbeats 2000000 in
set_option maxRecDepth 100000 in
theorem pturn_any {w : World} {x y n : Int} (hx : -2097152 ≤ x ∧ x ≤ 2097152) (hy : -2097152 ≤ y ∧ y ≤ 2097152) :
    Calls Try.prog 16 #[.agg #[.int .i64 x, .int .i64 y], .int .i64 n] w (NewPost (.agg #[.int .i64 (turnI (n % 4).toNat (x, y)).1, .int .i64 (turnI (n % 4).toNat (x, y)).2]) w) := by
  obtain ⟨W0, hW0⟩ : ∃ W, W = (w.alloc (.cells #[.int .i64 x, .int .i64 y] 23)).alloc (.cells #[.int .i64 0, .int .i64 0] 23) := ⟨_, rfl⟩
  have b0 : New w W0 := by rw [hW0]; exact ((Below.refl _ _).alloc (Nat.le_refl _) _).alloc (by simp) _
  have e1 : (w.alloc (.cells #[.int .i64 x, .int .i64 y] 23)).heap.size = w.heap.size + 1 := by simp
  have A0 : Blk W0 w.heap.size 23 #[.int .i64 x, .int .i64 y] := by rw [hW0]; exact (Blk.new _ _ _).alloc _
  have C0 : Blk W0 (w.heap.size + 1) 23 #[.int .i64 0, .int .i64 0] := by rw [hW0, ← e1]; exact Blk.new _ _ _
  obtain ⟨x0, x1⟩ := cells2 A0
  have P1 := Lib.hid (number_any (w := W0) (x := x) (y := y) (by omega) (by omega))
  have a3 := i64_and3 n
  obtain ⟨m, hm⟩ := Int.eq_ofNat_of_zero_le (show 0 ≤ n % 4 by omega)
  have hm4 : m < 4 := by omega
  rw [hm] at a3 ⊢
  rw [Int.toNat_natCast]
  have HT := Lib.hid (fun (k a b : Nat) (h : RepC (turnI k (x, y)).1 (turnI k (x, y)).2 a b) => rep_turn h hx hy)
  have HN := Lib.hid (turn_near m (x, y) hx hy)
  have HC := Lib.hid C0
  have HW := Lib.hid hW0
  have HB := Lib.hid b0
  rw [hW0] at x0 x1
  clear A0 C0 b0 e1 hx hy hm hW0
  go_enter Try.func16, Try.ntmps16
  go_wp2_with fail
  rw [← HW.out]
  refine P1.out.mono ?_
  rintro e w1 ⟨a, b, rfl, hr, c1⟩
  have HR := Lib.hid hr
  clear hr x0 x1 P1
  go_wp2
  go_loop [5, 10] (fun z i => ∃ k a b : Nat, k ≤ m ∧ i = .int .i64 (k : Int) ∧ z = .complex .f64 a b ∧ Hid (RepC (turnI k (x, y)).1 (turnI k (x, y)).2 a b)) (fun _ i => m - (intOf i).toNat)
  case atStart => exact ⟨0, a, b, by omega, rfl, rfl, HR⟩
  case round =>
    obtain ⟨k, a, b, hk, rfl, rfl, H⟩ := hrel
    by_cases hlt : k < m
    · obtain ⟨re, im, k1, k2⟩ := HT.out k a b H.out
      have q := fun w : World => run_complex_mul (P := Try.prog) w 40 a b 0 4607182418800017408 re im k1
      have H2 := Lib.hid k2
      clear k1 k2 H
      go_wp2
      go_round
      case rel => exact ⟨k + 1, re, im, by omega, by go_num, rfl, H2⟩
      case measure => simp [intOf]; omega
    · obtain rfl : k = m := by omega
      have PA := Lib.hid (fun W : World => at_any (w := W) H.out (by have := HN.out; omega) (by have := HN.out; omega))
      have C1 := HC.out.below c1 HC.out.lt
      generalize (turnI k (x, y)).1 = rx at *
      generalize (turnI k (x, y)).2 = ry at *
      have HC1 := Lib.hid C1
      clear H HT HN HC C1
      go_wp2_with fail
      refine (PA.out _).mono ?_
      rintro e w3 ⟨rfl, c3⟩
      have C3 := HC1.out.below c3 HC1.out.lt
      obtain ⟨z0, z1⟩ := cells2 C3
      have f0 := C3.frozen 0
      have f1 := C3.frozen 1
      have S3 := Lib.hid (store2 C3 (a := .int .i64 rx) (b := .int .i64 ry))
      have hF := far_set2 (g := w.heap.size + 1) (.int .i64 rx) (.int .i64 ry) w3
      have bE := New.far HB.out (Far.trans (Far.of_new (New.trans c1 c3)) hF) (by omega)
      clear C3 hF
      go_wp2
      obtain ⟨s0, s1⟩ := cells2 S3.out
      exact bodyPost_ret (v := .agg #[.int .i64 rx, .int .i64 ry]) (by simp [results, Try.results16, go_sem, s0, s1]) rfl ⟨rfl, bE⟩

end Go.Proofs.Ytbphmcinbckgbaa
