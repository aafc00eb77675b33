/- Contracts of package query: queries as bytes. -/
import Derived.Test.YtnmdbplkngnflaaQry

namespace Go.Proofs.Ytnmdbplkngnflaa
open Go.RowKit Go.Hm

set_option maxHeartbeats 2000000 in
set_option maxRecDepth 100000 in
theorem qenc_any {w : World} {A0 : Option Addr} {n c : Nat} {L : List Int} {f t : Int} (h : Reads w w.heap.size 1 A0 n (ints .i64 L)) (hn : n ≤ 9223372036854775806) (hL : ∀ x ∈ L, -9223372036854775808 ≤ x ∧ x ≤ 9223372036854775807) :
    Calls Try.prog 9 #[Qv A0 n c f t] w (OptB (encQ L f t) w) := by
  obtain rfl := h.lenI
  have b1 : New w (w.alloc (.cells #[.slice A0 L.length c, .int .i64 f, .int .i64 t] 24)) := (Below.refl _ _).alloc (Nat.le_refl _) _
  have M1 := Lib.hid (may_any (c := c) (f := f) (t := t) (Reads.later h b1) hn hL)
  cases hm : qmay L f t with
  | false =>
    have hO : encQ L f t = none := by unfold encQ; rw [hm]; rfl
    rw [hm] at M1
    rw [hO]
    clear hm hO
    go_enter Try.func9, Try.ntmps9
    go_wp2_with (go_at_call 17; refine M1.out.mono ?_; rintro e w2 ⟨rfl, b2⟩)
    go_ret2
    exact ⟨rfl, New.trans b1 b2⟩
  | true =>
    have hO : encQ L f t = some (qenc L f t) := by unfold encQ; rw [hm]; rfl
    rw [hm] at M1
    rw [hO]
    obtain ⟨⟨h1, h2, h3⟩, h4⟩ := (qmay_iff L f t).1 hm
    have hl := okCols_len h4
    obtain ⟨f, rfl⟩ := Int.eq_ofNat_of_zero_le h1
    obtain ⟨t, rfl⟩ := Int.eq_ofNat_of_zero_le (show 0 ≤ t by omega)
    have Hq := Lib.hid (show qenc L (f : Int) (t : Int) = vp L.length ++ catI L ++ vp f ++ vp t by unfold qenc; simp)
    have HC := Lib.hid h4.1
    have vf := vp_len10 (n := f) (by omega)
    have vt := vp_len10 (n := t) (by omega)
    have vl := vp_len10 (n := L.length) (by omega)
    have VF := Lib.hid vf
    have VT := Lib.hid vt
    have VL := Lib.hid vl
    have hz0 := b1.size
    clear hm hO h4 vf vt vl
    go_enter Try.func9, Try.ntmps9
    go_wp2_with (first
      | (go_at_call 17; refine M1.out.mono ?_; rintro e w2 ⟨rfl, b2⟩
         have b02 := New.trans b1 b2
         have B2 := Blk.below (Blk.new w 24 #[.slice A0 L.length c, .int .i64 (f : Int), .int .i64 (t : Int)]) b2 (by simp)
         have c0 : w2.cell? ⟨w.heap.size, 0, none⟩ = some (.slice A0 L.length c) := by rw [B2.cell 0]; rfl
         have P3 := Lib.hid (put_any none 0 0 [] L.length w2 Reads.none_ (by omega) (by omega)))
      | (go_at_call 18; (with_reducible refine P3.out.mono ?_); rintro e w3 ⟨A3, n3, c3, rfl, k3, b3⟩
         rw [List.nil_append] at k3
         have b03 := New.trans b02 b3
         have B3 := B2.below b3 B2.lt
         have c0 : w3.cell? ⟨w.heap.size, 0, none⟩ = some (.slice A0 L.length c) := by rw [B3.cell 0]; rfl
         have HB3 := Lib.hid B3))
    go_loopw [4, 18] (fun v i wr => ∃ (k : Nat) (A : Option Addr) (m c5 : Nat), i = .int .i64 (k : Int) ∧ k ≤ L.length ∧ v = .slice A m c5 ∧ Own wr (w.heap.size + 1) 5 (.slice A m c5) (nums .u8 (vp L.length ++ catI (L.take k))) ∧ Blk wr w.heap.size 24 #[.slice A0 L.length c, .int .i64 (f : Int), .int .i64 (t : Int)] ∧ Below w.heap.size w wr) (fun _ i _ => L.length - (intOf i).toNat)
    case atStart => exact ⟨0, _, _, _, rfl, by omega, rfl, by rw [List.take_zero, catI_nil, List.append_nil]; exact k3.base_le (by have := b2.size; simpa using this), B3, b03⟩
    case round =>
      obtain ⟨k, A5, m5, c5, rfl, hk, rfl, o5, B5, b5⟩ := hrel
      have z5 := b5.size
      have zz5 := B5.lt
      have q5 : m5 ≤ 100 := by
        have l := o5.len
        rw [nums_length, List.length_append, catI_len _ (fun x hx => HC.out x (List.mem_of_mem_take hx)), List.length_take] at l
        have := VL.out
        omega
      have N5 := Lib.hid (o5.blk_ne B5 (by decide))
      by_cases hlt : k < L.length
      · obtain ⟨ad, rfl, hbk, hcell⟩ := (h.below b5).int hlt
        have hy := getD_memI HC.out hlt
        have T := take_snoc L k 0 hlt
        have HT := Lib.hid (show catI (L.take (k + 1)) = catI (L.take k) ++ vp (L.getD k 0).toNat by rw [T, catI_snoc])
        clear T
        generalize L.getD k 0 = y at *
        obtain ⟨y, rfl⟩ := Int.eq_ofNat_of_zero_le hy.1
        rw [Int.toNat_natCast] at HT
        have vy := Lib.hid (vp_len10 (n := y) (by omega))
        have HB5 := Lib.hid B5
        have P6 := Lib.hid (put_any none 0 0 [] y wr Reads.none_ (by omega) (by omega))
        clear B5
        go_wp2_with (first
          | (go_at_call 18; (with_reducible refine P6.out.mono ?_); rintro e w7 ⟨A7, n7, c7, rfl, k7, b7⟩
             rw [List.nil_append] at k7
             have b07 := below_then b5 b7 (Nat.le_refl _)
             have o7 := o5.later b7
             have q7 : n7 ≤ 10 := by have := k7.len; rw [nums_length] at this; have := vy.out; omega
             have B7 := Lib.hid (HB5.out.below b7 zz5)
             have r7 := k7.reads)
          | (refine wpList_pushesN elB rfl (.tmp 22) (.tmp 25) rfl (W := w) (B := w.heap.size) o7 r7 rfl rfl b07 (by omega) (by have := b07.size; have := b7.size; omega) (by omega) (by simp only [maxLen]; omega) ?_
             intro A8 c8 w8 _ _ o8 g8 b08 _))
        go_roundw
        case rel => exact ⟨k + 1, _, _, _, by go_num, by omega, rfl, by rw [HT.out, ← List.append_assoc]; exact o8, B7.out.push o7 g8 (by decide), b08⟩
        case measure => simp [intOf]; omega
      · obtain rfl : k = L.length := by omega
        rw [List.take_length] at o5
        have c1 : wr.cell? ⟨w.heap.size, 1, none⟩ = some (.int .i64 (f : Int)) := by rw [B5.cell 1]; rfl
        have P6 := Lib.hid (put_any none 0 0 [] f wr Reads.none_ (by omega) (by omega))
        have HB5 := Lib.hid B5
        clear B5
        go_wp2_with (first
          | (go_at_call 18; (with_reducible refine P6.out.mono ?_); rintro e w7 ⟨A7, n7, c7, rfl, k7, b7⟩
             rw [List.nil_append] at k7
             have b07 := below_then b5 b7 (Nat.le_refl _)
             have o7 := o5.later b7
             have q7 : n7 ≤ 10 := by have := k7.len; rw [nums_length] at this; have := VF.out; omega
             have B7 := Lib.hid (HB5.out.below b7 zz5)
             have r7 := k7.reads)
          | (refine wpList_pushesN elB rfl (.tmp 28) (.tmp 32) rfl (W := w) (B := w.heap.size) o7 r7 rfl rfl b07 (by omega) (by have := b07.size; have := b7.size; omega) (by omega) (by simp only [maxLen]; omega) ?_
             intro A8 c8 w8 _ _ o8 g8 b08 _
             have B8 := B7.out.push o7 g8 (by decide)
             have c2 : w8.cell? ⟨w.heap.size, 2, none⟩ = some (.int .i64 (t : Int)) := by rw [B8.cell 2]; rfl
             have zz8 := B8.lt
             have P9 := Lib.hid (put_any none 0 0 [] t w8 Reads.none_ (by omega) (by omega))
             clear B8)
          | (go_at_call 18; (with_reducible refine P9.out.mono ?_); rintro e w9 ⟨A9, n9, c9, rfl, k9, b9⟩
             rw [List.nil_append] at k9
             have b09 := below_then b08 b9 (Nat.le_refl _)
             have o9 := o8.later b9
             have q9 : n9 ≤ 10 := by have := k9.len; rw [nums_length] at this; have := VT.out; omega
             have r9 := k9.reads)
          | (refine wpList_pushesN elB rfl (.tmp 34) (.tmp 38) rfl (W := w) (B := w.heap.size) o9 r9 rfl rfl b09 (by omega) (by have := b09.size; have := b9.size; omega) (by omega) (by simp only [maxLen]; omega) ?_
             intro A10 c10 w10 _ _ o10 g10 b010 _))
        go_ret2
        rw [Hq.out]
        exact ⟨_, _, _, rfl, o10.base_le (by omega), b010⟩

end Go.Proofs.Ytnmdbplkngnflaa
