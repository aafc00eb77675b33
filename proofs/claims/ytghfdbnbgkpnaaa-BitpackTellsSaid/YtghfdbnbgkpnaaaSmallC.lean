/- The small case of layer 3's statements. -/
import Derived.Test.YtghfdbnbgkpnaaaCurN
import Derived.Test.YtghfdbnbgkpnaaaLaw
namespace Go.Proofs.Ytghfdbnbgkpnaaa
open Go.RowKit Go.Hm

def SmallPost (w : World) (e : Ending) (w' : World) : Prop := e = .returned (.bool true) ∧ Below w.heap.size w w'

theorem small03_str : (bstr [2, 1, 0, 0, 7, 0, 0, 0, 0, 0, 0, 0]).toList = [2, 1, 0, 0, 7, 0, 0, 0, 0, 0, 0, 0] := by rw [bstr_toList]; rfl

set_option maxHeartbeats 800000 in
theorem small03_any (w : World) : Calls Try.prog 20 #[] w (SmallPost w) := by
  have HS := Lib.hid small03_str
  go_enter Try.func20, Try.ntmps20
  go_wp2_with (first
    | (go_at_call 34; refine (lay_u32 (l := []) 258 Reads.none_ (by omega)).mono ?_; rintro e w1 ⟨A1, n1, c1, rfl, k1, b1⟩
       have r1 := k1.reads
       have q1 : n1 ≤ 100 := by have := k1.len; rw [nums_length] at this; simp [low] at this; omega)
    | (go_at_call 35; refine (lay_u64 7 r1 (by omega)).mono ?_; rintro e w2 ⟨A2, n2, c2, rfl, k2, b2⟩
       have b02 := b1.trans (b2.mono b1.size)
       rw [show [] ++ low 258 4 ++ low 7 8 = [2, 1, 0, 0, 7, 0, 0, 0, 0, 0, 0, 0] by decide] at k2
       have r2 := k2.reads
       have q2 : n2 ≤ 100 := by have := k2.len; rw [nums_length] at this; simp at this; omega)
    | (go_at_call 21; (with_reducible refine (over_any r2 (by omega) (by decide)).mono ?_); rintro e w3 ⟨g3, rfl, hg3, C3, b3⟩
       have b03 := b02.trans (b3.mono b02.size)
       have hz3 := b03.size
       have O4 := Lib.hid (over_any (c := 1) (Reads.lit w3 5 #[.int .u8 5] 1 .u8 [5] rfl rfl) (by omega) (by decide)))
    | (go_at_call 21; (with_reducible refine O4.out.mono ?_); rintro e w4 ⟨g4, rfl, hg4, C4, b4⟩
       have b34 : Below w3.heap.size w3 w4 := ((Below.refl _ _).alloc (Nat.le_refl _) _).trans (b4.mono (by simp))
       have hz4 := b34.size
       have D4 := C3.below b34
       have hne : g3 ≠ g4 := by have := C3.lt; simp at hg4; omega
       have Hne := Lib.hid hne
       clear hne
       have U := Lib.hid (show Calls Try.prog 24 #[.pointer (some ⟨g3, 0, none⟩)] w4 (CurPost (.returned (.int .u32 258)) g3 [7, 0, 0, 0, 0, 0, 0, 0] false w4) from u32_good D4 (by decide)))
    | (go_at_call 24; refine U.out.mono ?_; rintro e w5 ⟨rfl, C5, b5⟩
       obtain ⟨T5, H5⟩ := D4.blk
       have D5 := C4.keep b5 H5 Hne.out.symm (by decide)
       have V := Lib.hid (show Calls Try.prog 25 #[.pointer (some ⟨g3, 0, none⟩)] w5 (CurPost (.returned (.int .u64 7)) g3 [] false w5) from u64_good C5 (by decide)))
    | (go_at_call 25; refine V.out.mono ?_; rintro e w6 ⟨rfl, C6, b6⟩
       obtain ⟨T6, H6⟩ := C5.blk
       have D6 := D5.keep b6 H6 Hne.out.symm (by decide)
       have W7 := Lib.hid (show Calls Try.prog 22 #[.pointer (some ⟨g4, 0, none⟩)] w6 (CurPost (.returned (.int .u8 5)) g4 [] false w6) from byte_good D6 (by decide)))
    | (go_at_call 22; refine W7.out.mono ?_; rintro e w7 ⟨rfl, D7, b7⟩
       obtain ⟨T7, H7⟩ := D6.blk
       have C7 := C6.keep b7 H7 Hne.out (by decide)
       have E7 := Lib.hid (show Calls Try.prog 32 #[.pointer (some ⟨g4, 0, none⟩)] w7 (BadPost true w7) from end_any D7)
       have T8 := Lib.hid (take_bad (n := 1) D7 (.inr (.inr (by decide))) (by omega) (by omega)))
    | (go_at_call 32; (with_reducible refine E7.out.mono ?_); rintro e w8 ⟨rfl, rfl⟩)
    | (go_at_call 26; (with_reducible refine T8.out.mono ?_); rintro e w9 ⟨rfl, D9, b9⟩
       obtain ⟨T9, H9⟩ := D7.blk
       have C9 := C7.keep b9 H9 Hne.out (by decide)
       have E1 := Lib.hid (show Calls Try.prog 32 #[.pointer (some ⟨g3, 0, none⟩)] w9 (BadPost true w9) from end_any C9)
       have E2 := Lib.hid (show Calls Try.prog 32 #[.pointer (some ⟨g4, 0, none⟩)] w9 (BadPost false w9) from end_any D9)
       have E3 := Lib.hid (bad_any D9)
       have E4 := Lib.hid (show Calls Try.prog 30 #[.pointer (some ⟨g4, 0, none⟩)] w9 (LeftPost [] w9) from left_any D9)
       have hg4' : w2.heap.size ≤ g4 := by have := b3.size; simp at hg4; omega
       have f9 : Below w2.heap.size w2 w9 := below_gr (below_gr (below_gr (below_gr (b3.trans (b34.mono b3.size)) b5 hg3 (Nat.le_refl _)) b6 hg3 (Nat.le_refl _)) b7 hg4' (Nat.le_refl _)) b9 hg4' (Nat.le_refl _)
       have S9 := run_strB (c := c2) (r2.below f9)
       have HS := HS.out)
    | (go_at_call 32; (with_reducible refine E1.out.mono ?_); rintro e w10 ⟨rfl, rfl⟩)
    | (go_at_call 32; (with_reducible refine E2.out.mono ?_); rintro e w10 ⟨rfl, rfl⟩)
    | (go_at_call 31; (with_reducible refine E3.out.mono ?_); rintro e w10 ⟨rfl, rfl⟩)
    | (go_at_call 30; (with_reducible refine E4.out.mono ?_); rintro e w10 ⟨rfl, rfl⟩))
  go_ret
  exact ⟨rfl, below_then b02 f9 (Nat.le_refl _)⟩
end Go.Proofs.Ytghfdbnbgkpnaaa
