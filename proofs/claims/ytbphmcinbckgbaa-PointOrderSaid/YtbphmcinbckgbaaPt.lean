/- Contracts on points: point.number, point.Norm, ref06.Norm, ref06.sign. -/
import Derived.Test.YtbphmcinbckgbaaIeee
import Derived.Test.YtbphmcinbckgbaaCell

namespace Go.Proofs.Ytbphmcinbckgbaa
open Go.RowKit Go.Hm
/-- A complex number of whole parts; nothing that was is turned. -/
def CpxPost (x y : Int) (w : World) (e : Ending) (w' : World) : Prop := ∃ a b, e = .returned (.complex .f64 a b) ∧ RepC x y a b ∧ New w w'
set_option maxHeartbeats 1000000 in
set_option maxRecDepth 100000 in
theorem number_any {w : World} {x y : Int} (hx : x.natAbs < 9007199254740992) (hy : y.natAbs < 9007199254740992) :
    Calls Try.prog 26 #[.agg #[.int .i64 x, .int .i64 y]] w (CpxPost x y w) := by
  obtain ⟨W0, hW0⟩ : ∃ W, W = w.alloc (.cells #[.int .i64 x, .int .i64 y] 23) := ⟨_, rfl⟩
  have b0 : New w W0 := by rw [hW0]; exact (Below.refl _ _).alloc (Nat.le_refl _) _
  have B0 : Blk W0 w.heap.size 23 #[.int .i64 x, .int .i64 y] := by rw [hW0]; exact Blk.new _ _ _
  obtain ⟨x0, x1⟩ := cells2 B0
  rw [hW0] at x0 x1
  have R := Lib.hid (show RepC x y (floatOfInt .f64 x) (floatOfInt .f64 y) from ⟨rep_ofInt x hx, rep_ofInt y hy⟩)
  clear B0 hx hy
  go_enter Try.func26, Try.ntmps26
  go_wp2
  go_ret
  exact ⟨_, _, rfl, R.out, by rw [← hW0]; exact b0⟩
set_option maxHeartbeats 1000000 in
set_option maxRecDepth 100000 in
theorem norm_any {w : World} {x y : Int} (hx : -2097152 ≤ x ∧ x ≤ 2097152) (hy : -2097152 ≤ y ∧ y ≤ 2097152) :
    Calls Try.prog 18 #[.agg #[.int .i64 x, .int .i64 y]] w (NewPost (.int .i64 (x * x + y * y)) w) := by
  obtain ⟨W0, hW0⟩ : ∃ W, W = w.alloc (.cells #[.int .i64 x, .int .i64 y] 23) := ⟨_, rfl⟩
  have b0 : New w W0 := by rw [hW0]; exact (Below.refl _ _).alloc (Nat.le_refl _) _
  have B0 : Blk W0 w.heap.size 23 #[.int .i64 x, .int .i64 y] := by rw [hW0]; exact Blk.new _ _ _
  obtain ⟨x0, x1⟩ := cells2 B0
  rw [hW0] at x0 x1
  have P := Lib.hid (number_any (w := W0) (x := x) (y := y) (by omega) (by omega))
  have KN := Lib.hid (fun (a b : Nat) (h : RepC x y a b) => repC_norm h hx hy)
  have HW := Lib.hid hW0
  have HB := Lib.hid b0
  clear B0 hx hy hW0 b0
  go_enter Try.func18, Try.ntmps18
  go_wp2_with fail
  rw [← HW.out]
  refine P.out.mono ?_
  rintro e w1 ⟨a, b, rfl, hr, b1⟩
  obtain ⟨re, im, e1, e2⟩ := KN.out a b hr
  have u := unary_negF .f64 b
  have m := fun w : World => run_complex_mul (P := Try.prog) w 40 a b a (Op.negFloat .f64 b) re im e1
  have f := fun w : World => run_convert_float_int (P := Try.prog) w 42 3 .f64 .i64 re _ (by kernel_rfl) (by kernel_rfl) e2
  clear x0 x1 e1 e2 hr P KN
  go_wp2
  go_ret
  exact ⟨rfl, New.trans HB.out b1⟩

end Go.Proofs.Ytbphmcinbckgbaa
