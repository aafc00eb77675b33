/- The small case of layer 4's statements. -/
import Derived.Test.YtghfdbnbgkpnaaaVarG
import Derived.Test.YtghfdbnbgkpnaaaLaw
import Derived.Test.YtghfdbnbgkpnaaaSmallC
namespace Go.Hm
theorem vp300 : vp 300 = [172, 2] := by rw [vp_ge (by omega), vp_lt (by omega)]
theorem vp_none : ∀ N r, [128, 0] = vp N ++ r → 18446744073709551616 ≤ N := by
  intro N r h
  have h1 := vp_app_ge h (by omega)
  have h2 := vp_app_lt h1.2.2 (by omega)
  omega
theorem vp5_one : ∀ N r, [5] = vp N ++ r → (4 : Int) < N := by
  intro N r h
  have h1 := vp_app_lt h (by omega)
  omega
end Go.Hm
namespace Go.Proofs.Ytghfdbnbgkpnaaa
open Go.RowKit Go.Hm

theorem small04_str : (bstr [172, 2]).toList = [172, 2] := by rw [bstr_toList]; rfl

set_option maxHeartbeats 800000 in
theorem small04_any (w : World) : Calls Try.prog 37 #[] w (SmallPost w) := by
  have HS := Lib.hid small04_str
  go_enter Try.func37, Try.ntmps37
  go_wp2_with (first
    | (go_at_call 38; refine (put_any none 0 0 [] 300 w Reads.none_ (by omega) (by omega)).mono ?_; rintro e w1 ⟨A1, n1, c1, rfl, k1, b1⟩
       rw [List.nil_append, vp300] at k1
       obtain rfl : n1 = 2 := by have := k1.len; rw [nums_length] at this; simpa using this
       have r1 := k1.reads
       have O2 := Lib.hid (over_any (c := c1) r1 (by omega) (by decide)))
    | (go_at_call 21; (with_reducible refine O2.out.mono ?_); rintro e w2 ⟨g2, rfl, hg2, C2, b2⟩
       have z2 := b2.size
       have O3 := Lib.hid (over_any (c := 2) (Reads.lit w2 5 #[.int .u8 128, .int .u8 0] 2 .u8 [128, 0] rfl rfl) (by omega) (by decide)))
    | (go_at_call 21; (with_reducible refine O3.out.mono ?_); rintro e w3 ⟨g3, rfl, hg3, C3, b3⟩
       have b23 : Below w2.heap.size w2 w3 := ((Below.refl _ _).alloc (Nat.le_refl _) _).trans (b3.mono (by simp))
       have z3 := b23.size
       have D3 := C2.below b23
       have O4 := Lib.hid (over_any (c := 1) (Reads.lit w3 5 #[.int .u8 5] 1 .u8 [5] rfl rfl) (by omega) (by decide)))
    | (go_at_call 21; (with_reducible refine O4.out.mono ?_); rintro e w4 ⟨g4, rfl, hg4, C4, b4⟩
       have b34 : Below w3.heap.size w3 w4 := ((Below.refl _ _).alloc (Nat.le_refl _) _).trans (b4.mono (by simp))
       have z4 := b34.size
       have D4 := D3.below b34
       have E4 := C3.below b34
       have O5 := Lib.hid (over_any (c := 1) (Reads.lit w4 5 #[.int .u8 5] 1 .u8 [5] rfl rfl) (by omega) (by decide)))
    | (go_at_call 21; (with_reducible refine O5.out.mono ?_); rintro e w5 ⟨g5, rfl, hg5, C5, b5⟩
       have b45 : Below w4.heap.size w4 w5 := ((Below.refl _ _).alloc (Nat.le_refl _) _).trans (b5.mono (by simp))
       have z5 := b45.size
       have D5 := D4.below b45
       have E5 := E4.below b45
       have F5 := C4.below b45
       have l2 := Lib.hid D5.lt
       have l3 := Lib.hid E5.lt
       have l4 := Lib.hid F5.lt
       have n23 : g2 ≠ g3 := by have := C2.lt; simp at hg3; omega
       have n24 : g2 ≠ g4 := by have := D3.lt; simp at hg4; omega
       have n25 : g2 ≠ g5 := by have := D4.lt; simp at hg5; omega
       have n34 : g3 ≠ g4 := by have := C3.lt; simp at hg4; omega
       have n35 : g3 ≠ g5 := by have := E4.lt; simp at hg5; omega
       have n45 : g4 ≠ g5 := by have := C4.lt; simp at hg5; omega
       have N := Lib.hid (And.intro n23 (And.intro n24 (And.intro n25 (And.intro n34 (And.intro n35 n45)))))
       clear n23 n24 n25 n34 n35 n45
       have h2' : w1.heap.size ≤ g2 := hg2
       have h3' : w1.heap.size ≤ g3 := by simp at hg3; omega
       have h4' : w1.heap.size ≤ g4 := by simp at hg4; omega
       have h5' : w1.heap.size ≤ g5 := by simp at hg5; omega
       have f5 : Below w1.heap.size w1 w5 := b2.trans ((b23.trans ((b34.trans (b45.mono z4)).mono z3)).mono z2)
       have G2 := Lib.hid (show Calls Try.prog 46 #[.pointer (some ⟨g2, 0, none⟩)] w5 (CurPost (.returned (.int .u64 300)) g2 [] false w5) from get_app (N := 300) (r := []) (by rw [vp300]; exact D5) (by omega)))
    | (go_at_call 46; (with_reducible refine G2.out.mono ?_); rintro e w6 ⟨rfl, C6, b6⟩
       have f6 := below_gr f5 b6 h2' (Nat.le_refl _)
       obtain ⟨T6, H6⟩ := D5.blk
       have D6 := E5.keep b6 H6 N.out.1.symm (by decide)
       have E6 := F5.keep b6 H6 N.out.2.1.symm (by decide)
       have F6 := C5.keep b6 H6 N.out.2.2.1.symm (by decide)
       have G3 := Lib.hid (get_no D6 (.inr vp_none)))
    | (go_at_call 46; (with_reducible refine G3.out.mono ?_); rintro e w7 ⟨rfl, D7, b7⟩
       have f7 := below_gr f6 b7 h3' (Nat.le_refl _)
       obtain ⟨T7, H7⟩ := D6.blk
       have C7 := C6.keep b7 H7 N.out.1 (by decide)
       have E7 := E6.keep b7 H7 N.out.2.2.2.1.symm (by decide)
       have F7 := F6.keep b7 H7 N.out.2.2.2.2.1.symm (by decide)
       have L4 := Lib.hid (show Calls Try.prog 48 #[.pointer (some ⟨g4, 0, none⟩), .int .i64 5] w7 (CurPost (.returned (.int .i64 5)) g4 [] false w7) from len_app (N := 5) (r := []) (by rw [vp_lt (by omega)]; exact E7) (by omega) (by omega)))
    | (go_at_call 48; (with_reducible refine L4.out.mono ?_); rintro e w8 ⟨rfl, E8, b8⟩
       have f8 := below_gr f7 b8 h4' (Nat.le_refl _)
       obtain ⟨T8, H8⟩ := E7.blk
       have C8 := C7.keep b8 H8 N.out.2.1 (by decide)
       have D8 := D7.keep b8 H8 N.out.2.2.2.1 (by decide)
       have F8 := F7.keep b8 H8 N.out.2.2.2.2.2.symm (by decide)
       have L5 := Lib.hid (len_no (m := 4) F8 (.inr vp5_one) (by omega) (by omega)))
    | (go_at_call 48; (with_reducible refine L5.out.mono ?_); rintro e w9 ⟨rfl, F9, b9⟩
       have f9 := below_gr f8 b9 h5' (Nat.le_refl _)
       obtain ⟨T9, H9⟩ := F8.blk
       have C9 := C8.keep b9 H9 N.out.2.2.1 (by decide)
       have D9 := D8.keep b9 H9 N.out.2.2.2.2.1 (by decide)
       have E9 := E8.keep b9 H9 N.out.2.2.2.2.2 (by decide)
       have P1 := Lib.hid (show Calls Try.prog 32 #[.pointer (some ⟨g2, 0, none⟩)] w9 (BadPost true w9) from end_any C9)
       have P2 := Lib.hid (bad_any D9)
       have P3 := Lib.hid (bad_any E9)
       have P4 := Lib.hid (bad_any F9)
       have S9 := run_strB (c := c1) (r1.below f9)
       have HS := HS.out
       have Z1 := Lib.hid (show Calls Try.prog 40 #[.int .u64 300] w9 (IsSize 300 w9) from size_any 300 w9 (by omega))
       have Z2 := Lib.hid (show Calls Try.prog 40 #[.int .u64 0] w9 (IsSize 0 w9) from size_any 0 w9 (by omega))
       have Z3 := Lib.hid (zig_any (-1) w9 (by omega) (by omega))
       have Z4 := Lib.hid (zig_any 2 w9 (by omega) (by omega))
       have Z5 := Lib.hid (show Calls Try.prog 44 #[.int .u64 3] w9 (ZigPost (.int .i64 (-2)) w9) from zag_any 3 w9 (by omega)))
    | (go_at_call 32; (with_reducible refine P1.out.mono ?_); rintro e w10 ⟨rfl, rfl⟩)
    | (go_at_call 31; (with_reducible refine P2.out.mono ?_); rintro e w10 ⟨rfl, rfl⟩)
    | (go_at_call 31; (with_reducible refine P3.out.mono ?_); rintro e w10 ⟨rfl, rfl⟩)
    | (go_at_call 31; (with_reducible refine P4.out.mono ?_); rintro e w10 ⟨rfl, rfl⟩)
    | (go_at_call 40; (with_reducible refine Z1.out.mono ?_); rintro e w10 ⟨rfl, rfl⟩
       rw [vp300])
    | (go_at_call 40; (with_reducible refine Z2.out.mono ?_); rintro e w10 ⟨rfl, rfl⟩
       rw [vp_lt (show 0 < 128 by omega)])
    | (go_at_call 42; (with_reducible refine Z3.out.mono ?_); rintro e w10 ⟨rfl, rfl⟩
       rw [show zig (-1) = 1 from rfl])
    | (go_at_call 42; (with_reducible refine Z4.out.mono ?_); rintro e w10 ⟨rfl, rfl⟩
       rw [show zig 2 = 4 from rfl])
    | (go_at_call 44; (with_reducible refine Z5.out.mono ?_); rintro e w10 ⟨rfl, rfl⟩))
  go_ret
  exact ⟨rfl, below_then b1 f9 (Nat.le_refl _)⟩
end Go.Proofs.Ytghfdbnbgkpnaaa
