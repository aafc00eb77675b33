/- The small case of layer 18's statements. -/
import Derived.Test.YtpbfohgmhjadpaaLayC
import Derived.Test.YtpbfohgmhjadpaaLay
import Derived.Test.YtpbfohgmhjadpaaLayO
import Derived.Lib.SmallJoins

namespace Go.Proofs.Ytpbfohgmhjadpaa
open Go.RowKit Go.Hm

theorem small18_1 : cutS 0 5 2 = [(0, 2), (2, 4), (4, 5)] := by decide
theorem small18_2 : IsOver [(0, 2), (2, 4), (4, 5)] 1 3 0 2 := by unfold IsOver; decide
theorem small18_3 : IsOver [(0, 2), (2, 4), (4, 5)] 2 2 0 0 := by unfold IsOver; decide
theorem small18_4 : IsOver [(0, 2), (2, 4), (4, 5)] 4 9 2 3 := by unfold IsOver; decide
theorem small18_5 : UpS [(0, 2), (2, 4), (4, 5)] := by rw [← small18_1]; exact cutS_up _ _ _

set_option maxHeartbeats 1000000 in
set_option maxRecDepth 100000 in
theorem small18_any (w : World) : Calls Try.prog 8 #[] w (SmallPost w) := by
  have P1 := Lib.hid (cut_any 0 5 2 (by omega) (by omega) (by omega) w)
  rw [small18_1] at P1
  go_enter Try.func8, Try.ntmps8
  go_wp2_with fail
  refine P1.out.mono ?_
  rintro e w1 ⟨A1, n1, c1, rfl, k1, b1⟩
  have r1 := Reads.of_own k1
  obtain rfl : n1 = 3 := r1.lenP
  have P2 := Lib.hid (fun (W : World) (hW : New w1 W) (f t : Int) => over_any (c := c1) (f := f) (t := t) (Reads.later r1 hW) small18_5 (by omega))
  clear k1 P1
  have P3 := Lib.hid (P2.out w1 (New.refl _) 1 3)
  go_wp2_with fail
  refine P3.out.mono ?_
  rintro e w2 ⟨a, b, rfl, ho, b2⟩
  obtain ⟨rfl, rfl⟩ := ho.one small18_2
  have b12 := New.trans (New.refl w1) b2
  clear ho P3 b2
  have P3 := Lib.hid (P2.out w2 b12 2 2)
  go_wp2_with fail
  refine P3.out.mono ?_
  rintro e w3 ⟨a, b, rfl, ho, b2⟩
  obtain ⟨rfl, rfl⟩ := ho.one small18_3
  have b13 := New.trans b12 b2
  clear ho P3 b2 b12
  have P3 := Lib.hid (P2.out w3 b13 4 9)
  go_wp2_with fail
  refine P3.out.mono ?_
  rintro e w4 ⟨a, b, rfl, ho, b2⟩
  obtain ⟨rfl, rfl⟩ := ho.one small18_4
  have b14 := New.trans b13 b2
  clear ho P3 b2 b13
  have b04 := New.trans b1 b14
  obtain ⟨ad, hA, hb, z1, z2⟩ := (Reads.later r1 b14).pair2 (i := 2) (by omega)
  subst hA
  have P4 := Lib.hid (cut_any 3 3 1 (by omega) (by omega) (by omega) w4)
  rw [show cutS 3 3 1 = [] by decide] at P4
  clear P2 b1 b14
  have z1 : w4.cell? ⟨ad.block, ad.off + 4, none⟩ = some (.int .i64 4) := z1
  have z2 : w4.cell? ⟨ad.block, ad.off + 4 + 1, none⟩ = some (.int .i64 5) := z2
  go_wp2_with fail
  refine P4.out.mono ?_
  rintro e w5 ⟨A5, n5, c5, rfl, k5, b5⟩
  obtain rfl : n5 = 0 := (Reads.of_own k5).lenP
  have b05 := New.trans b04 b5
  have P5 := Lib.hid (cut_any 0 3 0 (by omega) (by omega) (by omega) w5)
  rw [show cutS 0 3 0 = [] by decide] at P5
  clear P4 k5 b5 b04 z1 z2
  go_wp2_with fail
  refine P5.out.mono ?_
  rintro e w6 ⟨A6, n6, c6, rfl, k6, b6⟩
  obtain rfl : n6 = 0 := (Reads.of_own k6).lenP
  have b06 := New.trans b05 b6
  clear P5 k6 b6 b05
  have P6 := Lib.hid (lcheck_any (g := 1) (p := 1) (c := 1) (c2 := 1) (E := [-1]) (L := [([97], 0, false)]) ((Reads.litV w6 3 #[.int .i64 (-1)] 1 (ints .i64 [-1]) rfl rfl).over (.cells #[.string ⟨#[97]⟩, .int .i64 0, .bool false] 41)) (Reads.litR (w6.alloc (.cells #[.int .i64 (-1)] 3)) 41 #[.string ⟨#[97]⟩, .int .i64 0, .bool false] 1 3 (recs colV [([97], 0, false)]) rfl rfl) (by omega))
  rw [show confCk 1 1 [-1] [([97], 0, false)] = 0 by decide] at P6
  rw [show (w6.alloc (.cells #[.int .i64 (-1)] 3)).heap.size = w6.heap.size + 1 by simp] at P6
  go_wp2_with fail
  refine P6.out.mono ?_
  rintro e w7 ⟨rfl, b7⟩
  have b07 := New.trans b06 (New.alloc _ (New.alloc _ b7))
  clear b7 P6 b06
  have P7 := Lib.hid (lcheck_any (g := 1) (p := 1) (c := 1) (c2 := 1) (E := [4]) (L := [([97], 0, false)]) ((Reads.litV w7 3 #[.int .i64 4] 1 (ints .i64 [4]) rfl rfl).over (.cells #[.string ⟨#[97]⟩, .int .i64 0, .bool false] 41)) (Reads.litR (w7.alloc (.cells #[.int .i64 4] 3)) 41 #[.string ⟨#[97]⟩, .int .i64 0, .bool false] 1 3 (recs colV [([97], 0, false)]) rfl rfl) (by omega))
  rw [show confCk 1 1 [4] [([97], 0, false)] = 3 by decide] at P7
  rw [show (w7.alloc (.cells #[.int .i64 4] 3)).heap.size = w7.heap.size + 1 by simp] at P7
  go_wp2_with fail
  refine P7.out.mono ?_
  rintro e w8 ⟨rfl, b8⟩
  have b08 := New.trans b07 (New.alloc _ (New.alloc _ b8))
  clear b8 P7 b07
  have P8 := Lib.hid (lcheck_any (w := w8) (g := 0) (p := 0) (A := none) (n := 0) (c := 0) (A2 := none) (n2 := 0) (c2 := 0) (E := []) (L := []) Reads.none_ Reads.none_ (by omega))
  rw [show confCk 0 0 [] [] = 1 by decide] at P8
  go_wp2_with fail
  refine P8.out.mono ?_
  rintro e w9 ⟨rfl, b9⟩
  go_wp2
  go_ret
  exact ⟨rfl, New.trans b08 b9⟩

end Go.Proofs.Ytpbfohgmhjadpaa
