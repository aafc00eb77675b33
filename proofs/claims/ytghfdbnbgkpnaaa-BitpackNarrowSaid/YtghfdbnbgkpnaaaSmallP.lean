/- The small case of layer 5's statements. -/
import Derived.Test.YtghfdbnbgkpnaaaUnpack
import Derived.Test.YtghfdbnbgkpnaaaLaw
import Derived.Test.YtghfdbnbgkpnaaaSmallC
namespace Go.Proofs.Ytghfdbnbgkpnaaa
open Go.RowKit Go.Hm

theorem small05_str : (bstr [57]).toList = [57] := by rw [bstr_toList]; rfl
theorem small05_1 : packO [1, 2, 3] 2 = some [57] := by decide
theorem small05_2 : unpackO [57] 2 3 = some [1, 2, 3] := by decide
theorem small05_3 : unpackO [121] 2 3 = none := by decide
theorem small05_4 : packO [4] 2 = none := by decide
theorem small05_5 : unpackO [] 0 2 = some [0, 0] := by decide
theorem small05_6 : wid [1, 4] = 3 := by decide
theorem small05_7 : wid [] = 0 := by decide

set_option maxHeartbeats 1000000 in
theorem small05_any (w : World) : Calls Try.prog 50 #[] w (SmallPost w) := by
  have HS := Lib.hid small05_str
  have P1 := Lib.hid (pack_any (c := 3) 2 (Reads.lit w 32 #[.int .u64 1, .int .u64 2, .int .u64 3] 3 .u64 [1, 2, 3] rfl rfl) (by decide) (by omega) (by omega) (by omega))
  rw [small05_1] at P1
  go_enter Try.func50, Try.ntmps50
  go_wp2_with (first
    | (go_at_call 55; (with_reducible refine P1.out.mono ?_); rintro e w1 ⟨A1, n1, c1, rfl, k1, b1⟩
       have b01 : Below w.heap.size w w1 := ((Below.refl _ _).alloc (Nat.le_refl _) _).trans (b1.mono (by simp))
       obtain rfl : n1 = 1 := by have := k1.len; rw [nums_length] at this; simpa using this
       have r1 := k1.reads
       have U2 := Lib.hid (unpack_any (c := c1) 2 3 r1 (by decide) (by omega) (by omega) (by omega) (by omega) (by omega))
       rw [small05_2] at U2)
    | (go_at_call 57; (with_reducible refine U2.out.mono ?_); rintro e w2 ⟨A2, n2, c2, rfl, k2, b2⟩
       obtain rfl : n2 = 3 := by have := k2.len; rw [nums_length] at this; simpa using this
       have z2 := b2.size
       have r2 := k2.reads
       have U3 := Lib.hid (unpack_any (c := 1) 2 3 (Reads.lit w2 5 #[.int .u8 121] 1 .u8 [121] rfl rfl) (by decide) (by omega) (by omega) (by omega) (by omega) (by omega))
       rw [small05_3] at U3)
    | (go_at_call 57; (with_reducible refine U3.out.mono ?_); rintro e w3 ⟨rfl, b3⟩
       have b23 : Below w2.heap.size w2 w3 := ((Below.refl _ _).alloc (Nat.le_refl _) _).trans (b3.mono (by simp))
       have z3 := b23.size
       have P4 := Lib.hid (pack_any (c := 1) 2 (Reads.lit w3 32 #[.int .u64 4] 1 .u64 [4] rfl rfl) (by decide) (by omega) (by omega) (by omega))
       rw [small05_4] at P4)
    | (go_at_call 55; (with_reducible refine P4.out.mono ?_); rintro e w4 ⟨rfl, b4⟩
       have b34 : Below w3.heap.size w3 w4 := ((Below.refl _ _).alloc (Nat.le_refl _) _).trans (b4.mono (by simp))
       have z4 := b34.size
       have U5 := Lib.hid (unpack_any (w := w4) (A := none) (m := 0) (c := 0) (b := []) 0 2 Reads.none_ (by decide) (by omega) (by omega) (by omega) (by omega) (by omega))
       rw [small05_5] at U5)
    | (go_at_call 57; (with_reducible refine U5.out.mono ?_); rintro e w5 ⟨A5, n5, c5, rfl, k5, b5⟩
       obtain rfl : n5 = 2 := by have := k5.len; rw [nums_length] at this; simpa using this
       have z5 := b5.size
       have b15 : Below w1.heap.size w1 w5 := b2.trans ((b23.trans ((b34.trans (b5.mono z4)).mono z3)).mono z2)
       have b25 : Below w2.heap.size w2 w5 := b23.trans ((b34.trans (b5.mono z4)).mono z3)
       have S9 := run_strB (c := c1) (r1.below b15)
       have HS := HS.out
       have r25 := (r2.below b25).more b25.size
       have Q6 := Lib.hid (same_any (c := c2) (c2 := 3) ((r25.alloc (Nat.le_refl _) (.cells #[.int .u64 1, .int .u64 2, .int .u64 3] 32)).more (by simp)) (Reads.lit w5 32 #[.int .u64 1, .int .u64 2, .int .u64 3] 3 .u64 [1, 2, 3] rfl rfl) (by omega) (by omega)))
    | (go_at_call 59; (with_reducible refine Q6.out.mono ?_); rintro e w6 ⟨rfl, b6⟩
       have b56 : Below w5.heap.size w5 w6 := ((Below.refl _ _).alloc (Nat.le_refl _) _).trans (b6.mono (by simp))
       have z6 := b56.size
       have W7 := Lib.hid (width_any (c := 2) (Reads.lit w6 32 #[.int .u64 1, .int .u64 4] 2 .u64 [1, 4] rfl rfl) (by decide) (by omega))
       rw [small05_6] at W7)
    | (go_at_call 51; (with_reducible refine W7.out.mono ?_); rintro e w7 ⟨rfl, rfl⟩
       have W8 := Lib.hid (width_any (w := w6.alloc (.cells #[.int .u64 1, .int .u64 4] 32)) (A := none) (n := 0) (c := 0) (L := []) Reads.none_ (by decide) (by omega))
       rw [small05_7] at W8)
    | (go_at_call 51; (with_reducible refine W8.out.mono ?_); rintro e w7 ⟨rfl, rfl⟩)
    | (go_at_call 53; (with_reducible refine (bytes_any 3 3 _ (by omega) (by omega) (by omega) (by omega)).mono ?_); rintro e w7 ⟨rfl, rfl⟩
       rw [show nby 3 3 = 2 by decide])
    | (go_at_call 53; (with_reducible refine (bytes_any 65 0 _ (by omega) (by omega) (by omega) (by omega)).mono ?_); rintro e w7 ⟨rfl, rfl⟩
       rw [show nby 65 0 = -1 by decide]))
  go_outline
  go_ret
  exact ⟨rfl, ((b01.trans (b15.mono b01.size)).trans (b56.mono (by have := b15.size; have := b01.size; omega))).alloc (by have := b15.size; have := b01.size; omega) _⟩
end Go.Proofs.Ytghfdbnbgkpnaaa
