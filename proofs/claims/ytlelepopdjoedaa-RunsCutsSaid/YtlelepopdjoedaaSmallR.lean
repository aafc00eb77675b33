/- The small case of layer 10's statements, and numbers decoded whatever their number is said to be. -/
import Derived.Test.YtlelepopdjoedaaRunV
import Derived.Test.YtlelepopdjoedaaLaw05
import Derived.Test.YtlelepopdjoedaaRunK

namespace Go.Proofs.Ytlelepopdjoedaa
open Go.RowKit Go.Hm
theorem decode_all {w : World} {A : Option Addr} {k c : Nat} {b : List Nat} {n : Int} (h : Reads w w.heap.size 1 A k (nums .u8 b)) (h8 : ∀ x ∈ b, x < 256) (hk : k ≤ 140737488355200) :
    Calls Try.prog 15 #[.slice A k c, .int .i64 n] w (DecPost b n w) := by
  obtain rfl : k = b.length := h.len
  by_cases hn : n < 0 ∨ 65536 < n
  · exact decode_far hn
  · obtain ⟨m, rfl⟩ := Int.eq_ofNat_of_zero_le (show 0 ≤ n by omega)
    exact decode_any h h8 hk (by omega)
theorem isDec_is {b l : List Nat} {n : Int} {o : Option (List Nat)} (h : IsDec b n o) (h1 : (l.length : Int) = n) (h2 : l.length ≤ 65536) (h3 : ∀ x ∈ l, x ≤ 18446744073709551615) (h4 : encL l = b) : o = some l := (h l).2 ⟨h1, h2, h3, h4⟩
theorem isDec_no {b : List Nat} {n : Int} {o : Option (List Nat)} (h : IsDec b n o) (hn : ∀ l : List Nat, (l.length : Int) = n → l.length ≤ 65536 → (∀ x ∈ l, x ≤ 18446744073709551615) → encL l = b → False) : o = none := by
  cases o with
  | none => rfl
  | some l =>
    obtain ⟨h1, h2, h3, h4⟩ := (h l).1 rfl
    exact (hn l h1 h2 h3 h4).elim
theorem small10_str : (bstr [8, 7, 3, 1, 1]).toList = [8, 7, 3, 1, 1] := by rw [bstr_toList]; rfl
theorem small10_p1 : pcs [7, 7, 7, 7, 1] = [[7, 7, 7, 7], [1]] := by
  unfold pcs
  rw [cutP_run (by decide) (by decide)]
  have e : List.drop (st [7, 7, 7, 7, 1]) [7, 7, 7, 7, 1] = [1] := by decide
  rw [e, cutP_rest (by decide) (by decide)]
  have e : List.drop (st [1]) [1] = [] := by decide
  rw [e, cutP_nil]
  decide
theorem small10_p2 : pcs [7, 7, 7, 7] = [[7, 7, 7, 7]] := by
  unfold pcs
  rw [cutP_run (by decide) (by decide)]
  have e : List.drop (st [7, 7, 7, 7]) [7, 7, 7, 7] = [] := by decide
  rw [e, cutP_nil]
  decide
theorem small10_p3 : pcs [1, 2, 2, 2, 2, 3, 3] = [[1], [2, 2, 2, 2], [3, 3]] := by
  unfold pcs
  rw [cutP_rest (by decide) (by decide)]
  have e : List.drop (st [1, 2, 2, 2, 2, 3, 3]) [1, 2, 2, 2, 2, 3, 3] = [2, 2, 2, 2, 3, 3] := by decide
  rw [e, cutP_run (by decide) (by decide)]
  have e : List.drop (st [2, 2, 2, 2, 3, 3]) [2, 2, 2, 2, 3, 3] = [3, 3] := by decide
  rw [e, cutP_rest (by decide) (by decide)]
  have e : List.drop (st [3, 3]) [3, 3] = [] := by decide
  rw [e, cutP_nil]
  decide
theorem small10_1 : encL [7, 7, 7, 7, 1] = [8, 7, 3, 1, 1] := by
  unfold encL
  rw [small10_p1]
  simp [encP, vp_lt]
  decide
theorem small10_2 : encL [7, 7, 7, 7] = [8, 7] := by
  unfold encL
  rw [small10_p2]
  simp [encP, vp_lt]
  decide
theorem small10_3 : cuts [1, 2, 2, 2, 2, 3, 3] = [1, 4, 2] := by
  unfold cuts
  rw [small10_p3]
  rfl
theorem small10_4 : decS 4 4 [] (some [4, 7, 4, 7]) = ([7, 7, 7, 7], some []) := by decide
theorem small10_5 {o : Option (List Nat)} (h : IsDec [8, 7, 3, 1, 1] 5 o) : o = some [7, 7, 7, 7, 1] := isDec_is h (by decide) (by decide) (by decide) small10_1
theorem small10_6 {o : Option (List Nat)} (h : IsDec [8, 7, 3, 1, 1] 4 o) : o = none := isDec_no h fun l h1 h2 h3 h4 => by
  have := encL_inj h2 (by decide) h3 (by decide) (h4.trans small10_1.symm)
  subst this
  simp at h1
theorem small10_7 {o : Option (List Nat)} (h : IsDec [4, 7, 4, 7] 4 o) : o = none := isDec_no h fun l h1 h2 h3 h4 => by
  have := decS_enc h3 (n := 4) (k := 4) (by omega) (by omega) (by rw [h4]; decide)
  rw [h4, small10_4] at this
  injection this with e _
  rw [← e, small10_2] at h4
  simp at h4
theorem small10_8 {o : Option (List Nat)} (h : IsDec [] 0 o) : o = some [] := isDec_is h (by decide) (by decide) (by decide) (by unfold encL pcs; rw [cutP_nil]; rfl)
set_option maxHeartbeats 1000000 in
set_option maxRecDepth 100000 in
theorem small10_any (w : World) : Calls Try.prog 10 #[] w (SmallPost w) := by
  have HS := Lib.hid small10_str
  have P1 := Lib.hid (encode_any (c := 5) (L := [7, 7, 7, 7, 1]) (Reads.lit w 34 #[.int .u64 7, .int .u64 7, .int .u64 7, .int .u64 7, .int .u64 1] 5 .u64 [7, 7, 7, 7, 1] rfl rfl) (by decide) (by decide) (by decide))
  rw [small10_1, show ([7, 7, 7, 7, 1] : List Nat).length = 5 from rfl] at P1
  go_enter Try.func10, Try.ntmps10
  go_wp2_with (first
    | (go_at_call 11; (with_reducible refine P1.out.mono ?_); rintro e w1 ⟨A1, n1, c1, rfl, k1, b1⟩
       have b01 := New.alloc _ b1
       obtain rfl : n1 = 5 := by have := k1.len; rw [nums_length] at this; simpa using this
       have r1 := k1.reads
       have U2 := Lib.hid (decode_all (c := c1) (n := 5) r1 (by decide) (by omega)))
    | (go_at_call 15; (with_reducible refine U2.out.mono ?_); rintro e w2 ⟨o2, i2, k2⟩
       obtain rfl := small10_5 i2
       obtain ⟨A2, n2, c2, rfl, k2, b2⟩ := k2
       obtain rfl : n2 = 5 := by have := k2.len; rw [nums_length] at this; simpa using this
       have z2 := b2.size
       have r2 := k2.reads
       have U3 := Lib.hid (decode_all (c := c1) (n := 4) (Reads.later r1 b2) (by decide) (by omega)))
    | (go_at_call 15; (with_reducible refine U3.out.mono ?_); rintro e w3 ⟨o3, i3, k3⟩
       obtain rfl := small10_6 i3
       obtain ⟨rfl, b3⟩ := k3
       have U4 := Lib.hid (decode_all (c := 4) (n := 4) (Reads.lit w3 5 #[.int .u8 4, .int .u8 7, .int .u8 4, .int .u8 7] 4 .u8 [4, 7, 4, 7] rfl rfl) (by decide) (by omega)))
    | (go_at_call 15; (with_reducible refine U4.out.mono ?_); rintro e w4 ⟨o4, i4, k4⟩
       obtain rfl := small10_7 i4
       obtain ⟨rfl, b4⟩ := k4
       have b34 := New.alloc _ b4
       have U5 := Lib.hid (decode_all (w := w4) (A := none) (c := 0) (b := []) (n := 0) Reads.none_ (by decide) (by omega)))
    | (go_at_call 15; (with_reducible refine U5.out.mono ?_); rintro e w5 ⟨o5, i5, k5⟩
       obtain rfl := small10_8 i5
       obtain ⟨A5, n5, c5, rfl, k5, b5⟩ := k5
       obtain rfl : n5 = 0 := by have := k5.len; rw [nums_length] at this; simpa using this
       have b25 := New.trans b3 (New.trans b34 b5)
       have C6 := Lib.hid (cut_any (c := 7) (L := [1, 2, 2, 2, 2, 3, 3]) (Reads.lit w5 34 #[.int .u64 1, .int .u64 2, .int .u64 2, .int .u64 2, .int .u64 2, .int .u64 3, .int .u64 3] 7 .u64 [1, 2, 2, 2, 2, 3, 3] rfl rfl) (by decide) (by decide))
       rw [show ([1, 2, 2, 2, 2, 3, 3] : List Nat).length = 7 from rfl] at C6)
    | (go_at_call 13; (with_reducible refine C6.out.mono ?_); intro e w6 h6; unfold CutPost at h6; rw [small10_3] at h6
       obtain ⟨v6, rfl, k6, b6⟩ := h6
       obtain ⟨A6, c6, rfl, -, -⟩ := k6.slice
       rw [show (nums .i64 [1, 4, 2]).length = 3 from rfl] at k6 ⊢
       have b56 := New.alloc _ b6
       have b16 := New.trans b2 (New.trans b25 b56)
       have S9 := run_strB (c := c1) (r1.below b16)
       have HS := HS.out
       have r26 := Reads.later r2 (New.trans b25 b56)
       have Q7 := Lib.hid (same_any (c := c2) (c2 := 5) (r26.over (.cells #[.int .u64 7, .int .u64 7, .int .u64 7, .int .u64 7, .int .u64 1] 34)) (Reads.lit w6 34 #[.int .u64 7, .int .u64 7, .int .u64 7, .int .u64 7, .int .u64 1] 5 .u64 [7, 7, 7, 7, 1] rfl rfl) (by omega) (by omega))
       rw [show decide (([7, 7, 7, 7, 1] : List Nat) = [7, 7, 7, 7, 1]) = true from rfl] at Q7)
    | (go_at_call 17; (with_reducible refine Q7.out.mono ?_); rintro e w7 ⟨rfl, b7⟩
       have b67 := New.alloc _ b7
       have r7 := Reads.later k6.reads b67
       obtain ⟨ad, ea, _, q0⟩ := r7.num (i := 0) (by omega)
       obtain ⟨ad1, ea1, _, q1⟩ := r7.num (i := 1) (by omega)
       obtain ⟨ad2, ea2, _, q2⟩ := r7.num (i := 2) (by omega)
       rw [ea] at ea1 ea2
       injection ea1 with ea1
       injection ea2 with ea2
       subst ea1
       subst ea2
       subst ea
       replace q0 : w7.cell? ad = some (.int .i64 1) := q0
       replace q1 : w7.cell? ⟨ad.block, ad.off + 1, none⟩ = some (.int .i64 4) := q1
       replace q2 : w7.cell? ⟨ad.block, ad.off + 2, none⟩ = some (.int .i64 2) := q2))
  go_ret
  exact ⟨rfl, New.trans b01 (New.trans b16 b67)⟩

end Go.Proofs.Ytlelepopdjoedaa
