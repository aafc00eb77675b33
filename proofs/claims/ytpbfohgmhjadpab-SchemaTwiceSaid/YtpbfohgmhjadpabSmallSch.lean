/- The small case of layer 16's statements. -/
import Derived.Test.YtpbfohgmhjadpabSchG
import Derived.Test.YtpbfohgmhjadpabColsR
import Derived.Lib.SmallJoins
import Derived.Lib.SlBytesConst
import Derived.Test.YtpbfohgmhjadpabOpen

namespace Go.Hm
def smL : List ColS := [([97], 0, false), ([98, 99], 3, true)]
theorem small16_1 : putC [9] smL = [9, 2, 1, 97, 0, 0, 2, 98, 99, 3, 1] := by
  rw [putC, if_pos (by decide)]
  simp [smL, catC, colB, vp_lt, boolN]
theorem small16_2 : putC [] smL = [2, 1, 97, 0, 0, 2, 98, 99, 3, 1] := by
  rw [putC, if_pos (by decide)]
  simp [smL, catC, colB, vp_lt, boolN]
theorem small16_3 : getC (some [2, 1, 97, 0, 0, 2, 98, 99, 3, 1]) = (smL, some []) := by decide
theorem small16_4 : getC (some [2, 1, 97, 0, 0, 1, 97, 0, 0]) = ([], none) := by decide
theorem small16_5 : putC [] [] = [0] := by
  rw [putC, if_pos (by decide)]
  simp [catC, vp_lt]
theorem small16_s1 : (bstr [9, 2, 1, 97, 0, 0, 2, 98, 99, 3, 1]).toList = [9, 2, 1, 97, 0, 0, 2, 98, 99, 3, 1] := by rw [bstr_toList]; rfl
theorem small16_s2 : (bstr [0]).toList = [0] := by rw [bstr_toList]; rfl
theorem small16_6 : putC [] [([], 0, false)] = [] := by rw [putC, if_neg (by decide)]

end Go.Hm

namespace Go.Proofs.Ytpbfohgmhjadpab
open Go.RowKit Go.Hm

theorem Reads.litM (w : World) (e : TypeId) (fr : Nat × Nat) (cs : Array Value) (n : Nat) (xs : List Value) (h : cs.toList = xs) (hn : n = xs.length) : Reads (w.alloc (.cells cs e fr)) (w.alloc (.cells cs e fr)).heap.size 1 (some ⟨w.heap.size, 0, none⟩) n xs := by
  subst hn
  refine ⟨by simp, fun _ => ⟨_, rfl, by simp, ?_⟩⟩
  have := World.news_of_block (heap_alloc_new w (.cells cs e fr))
  rwa [h] at this
theorem Reads.kept3 {w w' : World} {B n sz g : Nat} {A : Option Addr} {xs : List Value} (h : Reads w B sz A n xs) (hg : w.grownBy w' (some g)) (hB : B ≤ w.heap.size) (hr : B ≤ g) : Reads w' B sz A n xs := h.grown hg hB (fun g' e => by injection e with e; omega)

set_option maxHeartbeats 2000000 in
set_option maxRecDepth 100000 in
theorem small16_any (w : World) : Calls Try.prog 8 #[] w (SmallPost w) := by
  obtain ⟨W0, hW0⟩ : ∃ W, W = w.alloc (.cells #[.string ⟨#[97]⟩, .int .i64 0, .bool false, .string ⟨#[98, 99]⟩, .int .i64 3, .bool true] 42) := ⟨_, rfl⟩
  have b0 : New w W0 := by rw [hW0]; exact (Below.refl _ _).alloc (Nat.le_refl _) _
  have rL : Reads W0 W0.heap.size 3 (some ⟨w.heap.size, 0, none⟩) 2 (recs colV smL) := by rw [hW0]; exact Reads.litR w 42 _ 2 3 (recs colV smL) rfl rfl
  have hL : ∀ x ∈ smL, (∀ z ∈ x.1, z < 256) ∧ x.1.length ≤ 140737488351232 := by decide
  have P1 := Lib.hid (sput_any (c := 1) (c2 := 2) (Reads.litV W0 5 #[.int .u8 9] 1 (nums .u8 [9]) rfl rfl) (by omega) (rL.over (.cells #[.int .u8 9] 5)) hL (by omega) (by omega))
  rw [small16_1] at P1
  rw [hW0] at P1
  rw [show (w.alloc (.cells #[.string ⟨#[97]⟩, .int .i64 0, .bool false, .string ⟨#[98, 99]⟩, .int .i64 3, .bool true] 42)).heap.size = w.heap.size + 1 by simp] at P1
  have HW := Lib.hid hW0
  have RL := Lib.hid rL
  clear hW0 rL
  go_enter Try.func8, Try.ntmps8
  go_wp2_with fail
  refine P1.out.mono ?_
  rintro e w1 ⟨A1, n1, c1, rfl, k1, b1⟩
  rw [← HW.out] at b1
  have b01 := New.alloc _ b1
  have S1 := Lib.hid k1.reads
  have b11 : New w1 w1 := New.refl _
  clear P1 b1 k1
  generalize hgL : w.heap.size = gL at *
  have P2 := Lib.hid (sput_any (w := w1) (A := none) (n := 0) (c := 0) (b := []) (c2 := 2) Reads.none_ (by omega) (Reads.later RL.out b01) hL (by omega) (by omega))
  rw [small16_2] at P2
  go_wp2_with fail
  refine P2.out.mono ?_
  rintro e w2 ⟨A2, n2, c2, rfl, k2, b2⟩
  have b02 := New.trans b01 b2
  have b12 := New.trans b11 b2
  have k2n := k2.len
  have P3 := Lib.hid (over_any (c := c2) k2.reads (by rw [k2n]; simp [nums]) (by decide))
  clear P2 b2 b01 k2 k2n
  go_wp2_with fail
  refine P3.out.mono ?_
  rintro e w3 ⟨g3, rfl, hg3, C3, b3⟩
  have b03 := New.trans b02 b3
  have b13 := New.trans b12 b3
  have C3 := CurS.of C3
  clear P3 b3
  have hg30 : W0.heap.size ≤ g3 := by have := b02.size; omega
  have hg33 : g3 < w3.heap.size := C3.lt
  have P4 := Lib.hid (over_any (c := 9) (Reads.litM w3 5 (9, 10) #[.int .u8 2, .int .u8 1, .int .u8 97, .int .u8 0, .int .u8 0, .int .u8 1, .int .u8 97, .int .u8 0, .int .u8 0] 9 (nums .u8 [2, 1, 97, 0, 0, 1, 97, 0, 0]) rfl rfl) (by omega) (by decide))
  have kc := Lib.run_convert_bytes_const (P := Try.prog) w3 22 5 #[.int .u8 2, .int .u8 1, .int .u8 97, .int .u8 0, .int .u8 0, .int .u8 1, .int .u8 97, .int .u8 0, .int .u8 0] 9 9 elB.ht (by kernel_rfl)
  go_wp2_with fail
  refine P4.out.mono ?_
  rintro e w4 ⟨g4, rfl, hg4, C4, b4⟩
  have b34 := New.alloc _ b4
  have b04 := New.trans b03 b34
  have b14 := New.trans b13 b34
  have C3 := C3.below b34
  have C4 := CurS.of C4
  have hg34 : g3 < g4 := by simp at hg4; omega
  clear P4 b4 b34 b03
  have P5 := Lib.hid (sget_any C3)
  rw [small16_3] at P5
  go_wp2_with fail
  refine P5.out.mono ?_
  rintro e w5 ⟨A5, n5, c5, rfl, hc5, hm5, k5, C5, G5⟩
  have r5 := Reads.of_own k5
  obtain rfl : n5 = 2 := r5.lenC
  obtain ⟨cs5, B5⟩ := C3.blk
  have C45 := C4.keep G5 B5 (by omega) (by decide)
  have b05 : Below W0.heap.size W0 w5 := b04.grown G5 b04.size (fun k hk => by injection hk with hk; omega)
  have b15 : Below w1.heap.size w1 w5 := b14.grown G5 b14.size (fun k hk => by injection hk with hk; have := b12.size; omega)
  have hg4l : g4 < w4.heap.size := C4.lt
  have hg41 : W0.heap.size ≤ g4 ∧ w1.heap.size ≤ g4 := by have := b12.size; omega
  clear P5 C3 C4 B5 b04 b14
  have P6 := Lib.hid (sget_any C45)
  rw [small16_4] at P6
  go_wp2_with fail
  refine P6.out.mono ?_
  rintro e w6 ⟨A6, n6, c6, rfl, hc6, hm6, k6, C6, G6⟩
  obtain rfl : n6 = 0 := (Reads.of_own k6).lenC
  obtain ⟨cs6, B6⟩ := C45.blk
  have k5 := World.ownsRow.kept k5 G6 (.inr (fun e => by have := (World.ownsRow.lt k5 _ e).1; omega))
  have C5 := C5.keep G6 B6 (by omega) (by decide)
  have b06 : Below W0.heap.size W0 w6 := b05.grown G6 b05.size (fun k hk => by injection hk with hk; omega)
  have b16 : Below w1.heap.size w1 w6 := b15.grown G6 b15.size (fun k hk => by injection hk with hk; omega)
  have X1 := run_strB (c := c1) (S1.out.below b16)
  have HS := small16_s1
  have P7 := Lib.hid (schemaEq_any (c := c5) (c2 := 2) (Reads.of_own k5) ((RL.out.below b06).more b06.size) (by omega))
  have b0w6 : New w w6 := New.trans b0 b06
  clear P6 k6 k5 C45 B6 G6 G5 b05 b15 b06 b16 r5
  go_wp2_with fail
  refine P7.out.mono ?_
  rintro e w7 ⟨rfl, b7⟩
  have C5 := C5.below b7
  have C6 := C6.below b7
  have P8 := Lib.hid (endS_any C5)
  have P9 := Lib.hid (badS C6)
  have b0w7 := New.trans b0w6 b7
  clear P7 b7 X1 HS b0w6
  go_wp2_with fail
  refine P8.out.mono ?_
  rintro e w8 ⟨rfl, rfl⟩
  go_wp2_with fail
  refine P9.out.mono ?_
  rintro e w9 ⟨rfl, rfl⟩
  have P10 := Lib.hid (sput_any (w := w7) (A := none) (n := 0) (c := 0) (b := []) (A2 := none) (n2 := 0) (c2 := 0) (L := []) Reads.none_ (by omega) Reads.none_ (by simp) (by omega) (by omega))
  rw [small16_5] at P10
  clear P8 P9 C5 C6
  go_wp2_with fail
  refine P10.out.mono ?_
  rintro e w10 ⟨A10, n10, c10, rfl, k10, b10⟩
  have X2 := run_strB (c := c10) k10.reads
  have HS := small16_s2
  have b0w10 := New.trans b0w7 b10
  have P11 := Lib.hid (sput_any (w := w10.alloc (.cells #[.string ⟨#[]⟩, .int .i64 0, .bool false] 42)) (A := none) (n := 0) (c := 0) (b := []) (c2 := 1) (L := [([], 0, false)]) Reads.none_ (by omega) (Reads.litR w10 42 #[.string ⟨#[]⟩, .int .i64 0, .bool false] 1 3 (recs colV [([], 0, false)]) rfl rfl) (by simp) (by omega) (by omega))
  rw [small16_6] at P11
  clear P10 k10 b10 b0w7
  go_wp2_with fail
  refine P11.out.mono ?_
  rintro e w11 ⟨A11, n11, c11, rfl, k11, b11⟩
  obtain rfl : n11 = 0 := by have := k11.len; simpa [nums] using this
  go_wp2
  go_ret
  exact ⟨by simp, New.trans b0w10 (New.alloc _ b11)⟩

end Go.Proofs.Ytpbfohgmhjadpab
