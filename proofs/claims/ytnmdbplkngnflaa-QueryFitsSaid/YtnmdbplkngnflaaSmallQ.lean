/- The small case of layer 24's statements. -/
import Derived.Test.YtnmdbplkngnflaaQryS
import Derived.Test.YtnmdbplkngnflaaOpenT
import Derived.Lib.SlBytesConst
import Derived.Lib.SmallJoins

namespace Go.Proofs.Ytnmdbplkngnflaa
open Go.RowKit Go.Hm

theorem small24_str : (bstr [2, 1, 0, 2, 5]).toList = [2, 1, 0, 2, 5] := by rw [bstr_toList]; rfl
theorem small24_1 : encQ [1, 0] 2 5 = some [2, 1, 0, 2, 5] := by
  rw [encQ, if_pos (by decide)]
  simp [qenc, catI, vp_lt]
theorem small24_2 : decQ [2, 1, 0, 2, 5] = some ([1, 0], 2, 5) := (decQ_iff (by decide)).2 small24_1
theorem small24_3 : encQ [1, 1] 0 0 = none := by rw [encQ, if_neg (by decide)]
theorem small24_4 : decQ [0, 3, 2] = none := by decide

set_option maxHeartbeats 600000 in
set_option maxRecDepth 100000 in
theorem small24_any (w : World) : Calls Try.prog 4 #[] w (SmallPost w) := by
  have HS := Lib.hid small24_str
  have P1 := Lib.hid (qenc_any (c := 2) (f := 2) (t := 5) ((Reads.litV w 3 #[.int .i64 1, .int .i64 0] 2 (ints .i64 [1, 0]) rfl rfl).over (.cells #[.slice (some ⟨w.heap.size, 0, none⟩) 2 2, .int .i64 2, .int .i64 5] 24)) (by omega) (by decide))
  rw [small24_1] at P1
  have B1 := Lib.hid (Blk.new1 w (.cells #[.int .i64 1, .int .i64 0] 3) 24 #[.slice (some ⟨w.heap.size, 0, none⟩) 2 2, .int .i64 2, .int .i64 5])
  have R1 := Lib.hid ((Reads.litV w 3 #[.int .i64 1, .int .i64 0] 2 (ints .i64 [1, 0]) rfl rfl).over (.cells #[.slice (some ⟨w.heap.size, 0, none⟩) 2 2, .int .i64 2, .int .i64 5] 24))
  have b0 : New w ((w.alloc (.cells #[.int .i64 1, .int .i64 0] 3)).alloc (.cells #[.slice (some ⟨w.heap.size, 0, none⟩) 2 2, .int .i64 2, .int .i64 5] 24)) := Below.alloc (Below.alloc (Below.refl _ _) (Nat.le_refl _) _) (by simp) _
  go_enter Try.func4, Try.ntmps4
  go_wp2_with fail
  refine P1.out.mono ?_
  rintro e w1 ⟨A1, n1, c1, rfl, k1, b1⟩
  obtain rfl : n1 = 5 := by have := k1.len; rw [nums_length] at this; simpa using this
  have b01 : New w w1 := New.trans b0 b1
  have Q1 := B1.out.below b1 (by simp)
  have r1 := Reads.later R1.out b1
  have k5 := k1.reads
  obtain ⟨g1, hg1⟩ : ∃ g, g = w.heap.size + 1 := ⟨_, rfl⟩
  rw [← hg1] at Q1 ⊢
  clear P1 B1 R1 b0 b1 k1 hg1
  have P2 := Lib.hid (qdec_any (c := c1) k5 (by decide) (by omega))
  rw [small24_2] at P2
  go_wp2_with fail
  refine P2.out.mono ?_
  rintro e w2 ⟨A2, n2, c2, rfl, k2, b2⟩
  obtain rfl : n2 = 2 := by have := k2.len; rw [ints_length] at this; simpa using this
  have b02 := New.trans b01 b2
  have Q1 := Q1.below b2 Q1.lt
  have r1 := Reads.later r1 b2
  have k5 := Reads.later k5 b2
  have r2 := k2.reads
  clear P2 b2 k2 b01
  obtain ⟨W2, hW2⟩ : ∃ W, W = w2.alloc (.cells #[.slice A2 2 c2, .int .i64 2, .int .i64 5] 24) := ⟨_, rfl⟩
  have Q4 : Blk W2 w2.heap.size 24 #[.slice A2 2 c2, .int .i64 2, .int .i64 5] := by rw [hW2]; exact Blk.new _ _ _
  have P3 := Lib.hid (qenc_any (c := 2) (f := 0) (t := 0) (Reads.litV W2 3 #[.int .i64 1, .int .i64 1] 2 (ints .i64 [1, 1]) rfl rfl) (by omega) (by decide))
  rw [small24_3] at P3
  rw [show W2.heap.size = w2.heap.size + 1 by rw [hW2]; simp] at P3
  rw [hW2] at P3
  go_wp2_with fail
  refine P3.out.mono ?_
  rintro e w3 ⟨rfl, b3⟩
  rw [← hW2] at b3
  have b23 : New W2 w3 := New.alloc _ b3
  have b2 : New w2 W2 := by rw [hW2]; exact Below.alloc (Below.refl _ _) (Nat.le_refl _) _
  have b2 := New.trans b2 b23
  have b03 := New.trans b02 b2
  have Q1 := Q1.below b2 Q1.lt
  have r1 := Reads.later r1 b2
  have k5 := Reads.later k5 b2
  have r2 := Reads.later r2 b2
  have Q4 := Q4.below b23 Q4.lt
  obtain ⟨g4, hg4⟩ : ∃ g, g = w2.heap.size := ⟨_, rfl⟩
  rw [← hg4] at Q4 ⊢
  clear P3 b3 b23 b2 b02 hW2 hg4
  have P5 := Lib.hid (qdec_any (c := 3) (Reads.litV w3 5 #[.int .u8 0, .int .u8 3, .int .u8 2] 3 (nums .u8 [0, 3, 2]) rfl rfl) (by decide) (by omega))
  rw [small24_4] at P5
  go_wp2_with fail
  refine P5.out.mono ?_
  rintro e w5 ⟨rfl, b5⟩
  have b35 : New w3 w5 := New.alloc _ b5
  have b05 := New.trans b03 b35
  have Q1 := Q1.below b35 Q1.lt
  have r1 := Reads.later r1 b35
  have k5 := Reads.later k5 b35
  have r2 := Reads.later r2 b35
  have Q4 := Q4.below b35 Q4.lt
  clear P5 b5 b35 b03
  have HS := HS.out
  obtain ⟨W6, hW6⟩ : ∃ W, W = ((w5.alloc (.cells #[.slice none 0 0, .int .i64 0, .int .i64 0] 24)).alloc (.cells #[.string ⟨#[97]⟩, .int .i64 0, .bool false, .string ⟨#[98]⟩, .int .i64 0, .bool false] 46)).alloc (.cells #[.slice (some ⟨w5.heap.size + 1, 0, none⟩) 2 2, .int .i64 5, .slice none 0 0] 38) := ⟨_, rfl⟩
  have b56 : New w5 W6 := by rw [hW6]; exact Below.alloc (Below.alloc (Below.alloc (Below.refl _ _) (Nat.le_refl _) _) (by simp) _) (by simp; omega) _
  have QF : Blk W6 (w5.heap.size + 2) 38 #[.slice (some ⟨w5.heap.size + 1, 0, none⟩) 2 2, .int .i64 5, .slice none 0 0] := by
    rw [hW6]
    have := Blk.new ((w5.alloc (.cells #[.slice none 0 0, .int .i64 0, .int .i64 0] 24)).alloc (.cells #[.string ⟨#[97]⟩, .int .i64 0, .bool false, .string ⟨#[98]⟩, .int .i64 0, .bool false] 46)) 38 #[.slice (some ⟨w5.heap.size + 1, 0, none⟩) 2 2, .int .i64 5, .slice none 0 0]
    simpa using this
  have b06 := New.trans b05 b56
  have Q1 := Q1.below b56 Q1.lt
  have r1 := Reads.later r1 b56
  have S9 := run_strB (c := c1) (Reads.later k5 b56)
  have r2 := Reads.later r2 b56
  have Q4 := Q4.below b56 Q4.lt
  have P6 := Lib.hid (sameQ_any (c := c2) (c2 := 2) (f := 2) (t := 5) (f2 := 2) (t2 := 5) r2 r1 (by omega))
  rw [show decide ((([1, 0] : List Int), (2 : Int), (5 : Int)) = ([1, 0], 2, 5)) = true by decide] at P6
  have x0 := Q1.cell 0
  have x1 := Q1.cell 1
  have x2 := Q1.cell 2
  have y0 := Q4.cell 0
  have y1 := Q4.cell 1
  have y2 := Q4.cell 2
  simp at x0 x1 x2 y0 y1 y2
  rw [hW6] at x0 x1 x2 y0 y1 y2 S9 P6
  go_wp2_with fail
  refine P6.out.mono ?_
  rintro e w7 ⟨rfl, b7⟩
  rw [← hW6] at b7
  have b07 := New.trans b06 b7
  have Q1 := Q1.below b7 Q1.lt
  have r1 := Reads.later r1 b7
  have QF := QF.below b7 QF.lt
  obtain ⟨gF, hgF⟩ : ∃ g, g = w5.heap.size + 2 := ⟨_, rfl⟩
  obtain ⟨gC, hgC⟩ : ∃ g, g = w5.heap.size + 1 := ⟨_, rfl⟩
  rw [← hgF, ← hgC] at QF
  rw [← hgF, ← hgC]
  have P7 := Lib.hid (qfits_any (A1 := some ⟨gC, 0, none⟩) (A2 := none) (n1 := 2) (c1 := 2) (n2 := 0) (c2 := 0) (c := 2) (f := 2) (t := 5) (rows := 5) r1 (by omega) (by decide))
  rw [show qfits [1, 0] 2 5 (2 : Nat) 5 = true by decide] at P7
  have x0 := Q1.cell 0
  have x1 := Q1.cell 1
  have x2 := Q1.cell 2
  have y0 := QF.cell 0
  have y1 := QF.cell 1
  have y2 := QF.cell 2
  simp at x0 x1 x2 y0 y1 y2
  have HQF := Lib.hid QF
  clear hgF hgC hW6 S9 P6 b7 b56 b06 r2 Q4 Q1 QF r1
  go_wp2_with fail
  refine P7.out.mono ?_
  rintro e w8 ⟨rfl, b8⟩
  have b08 := New.trans b07 b8
  have QF := HQF.out.below b8 HQF.out.lt
  have P8 := Lib.hid (qfits_any (A1 := some ⟨gC, 0, none⟩) (A2 := none) (n1 := 2) (c1 := 2) (n2 := 0) (c2 := 0) (c := 1) (f := 0) (t := 0) (rows := 5) (Reads.litV w8 3 #[.int .i64 2] 1 (ints .i64 [2]) rfl rfl) (by omega) (by decide))
  rw [show qfits [2] 0 0 (2 : Nat) 5 = false by decide] at P8
  have QF := QF.alloc (.cells #[.int .i64 2] 3)
  have y0 := QF.cell 0
  have y1 := QF.cell 1
  have y2 := QF.cell 2
  simp at y0 y1 y2
  have HQF := Lib.hid QF
  clear P7 b8 QF
  go_wp2_with fail
  refine P8.out.mono ?_
  rintro e w9 ⟨rfl, b9⟩
  have QF := HQF.out.below b9 HQF.out.lt
  have b09 := New.trans b08 (New.alloc _ b9)
  have P9 := Lib.hid (qfits_any (A := none) (n := 0) (c := 0) (L := []) (w := w9) (A1 := some ⟨gC, 0, none⟩) (A2 := none) (n1 := 2) (c1 := 2) (n2 := 0) (c2 := 0) (f := 0) (t := 6) (rows := 5) Reads.none_ (by omega) (by decide))
  rw [show qfits [] 0 6 (2 : Nat) 5 = false by decide] at P9
  have y0 := QF.cell 0
  have y1 := QF.cell 1
  have y2 := QF.cell 2
  simp at y0 y1 y2
  clear P8 b9 QF
  go_wp2_with fail
  refine P9.out.mono ?_
  rintro e w10 ⟨rfl, b10⟩
  go_wp2
  go_ret
  exact ⟨rfl, New.trans b09 b10⟩

end Go.Proofs.Ytnmdbplkngnflaa
