/- Columns as bytes: plain lists, and the contract of schema.Put. -/
import Derived.Test.YtpbfohgmhjadpabCols
import Derived.Test.YtpbfohgmhjadpabVar
import Derived.Test.YtpbfohgmhjadpabUpT
import Derived.Test.YtpbfohgmhjadpabCur

namespace Go.Hm
open Go Go.RowKit
/-- Which columns may be. -/
def ColsOk (l : List ColS) : Prop := l.length ≤ 64 ∧ (∀ x ∈ l, 0 < x.1.length ∧ x.1.length ≤ 100 ∧ 0 ≤ x.2.1 ∧ x.2.1 ≤ 3) ∧ (l.map (·.1)).Nodup
theorem colsGo_iff : ∀ (l a : List ColS), colsGo a l = 0 ↔ (∀ x ∈ l, 0 < x.1.length ∧ x.1.length ≤ 100 ∧ 0 ≤ x.2.1 ∧ x.2.1 ≤ 3) ∧ (l.map (·.1)).Nodup ∧ ∀ x ∈ l, x.1 ∉ a.map (·.1)
  | [], a => by simp [colsGo]
  | c :: l, a => by
    have key : colCk a c.1 c.2.1 = 0 ↔ (0 < c.1.length ∧ c.1.length ≤ 100 ∧ 0 ≤ c.2.1 ∧ c.2.1 ≤ 3) ∧ c.1 ∉ a.map (·.1) := by
      unfold colCk
      by_cases h : nameBad a c.1
      · rw [if_pos h]
        refine ⟨fun hh => by omega, fun hh => ?_⟩
        rcases h with h | h | h
        · omega
        · omega
        · exact absurd h hh.2
      · rw [if_neg h]
        by_cases h2 : 0 ≤ c.2.1 ∧ c.2.1 ≤ 3
        · rw [if_pos h2]
          refine ⟨fun _ => ⟨⟨?_, ?_, h2.1, h2.2⟩, fun hh => h (.inr (.inr hh))⟩, fun _ => rfl⟩
          · have : ¬ c.1.length = 0 := fun hh => h (.inl hh)
            omega
          · have : ¬ 100 < c.1.length := fun hh => h (.inr (.inl hh))
            omega
        · rw [if_neg h2]
          exact ⟨fun hh => by omega, fun hh => by omega⟩
    have ih := colsGo_iff l (a ++ [c])
    have e : colsGo a (c :: l) = 0 ↔ colCk a c.1 c.2.1 = 0 ∧ colsGo (a ++ [c]) l = 0 := by
      rw [colsGo]
      split
      · rename_i h; exact ⟨fun hh => ⟨h, hh⟩, fun hh => hh.2⟩
      · rename_i h; exact ⟨fun hh => absurd hh h, fun hh => absurd hh.1 h⟩
    rw [e, key, ih]
    simp only [List.forall_mem_cons, List.map_cons, List.nodup_cons, List.map_append, List.map_nil, List.mem_append, List.mem_singleton]
    constructor
    · rintro ⟨⟨h1, h2⟩, h3, h4, h5⟩
      refine ⟨⟨h1, h3⟩, ⟨fun hh => ?_, h4⟩, h2, fun x hx hh => h5 x hx (.inl hh)⟩
      obtain ⟨x, hx, hxe⟩ := List.mem_map.1 hh
      exact h5 x hx (.inr hxe)
    · rintro ⟨⟨h1, h3⟩, ⟨h4, h5⟩, h2, h6⟩
      refine ⟨⟨h1, h2⟩, h3, h5, fun x hx hh => ?_⟩
      rcases hh with hh | hh
      · exact h6 x hx hh
      · exact h4 (List.mem_map.2 ⟨x, hx, hh⟩)
theorem colsCk_iff (l : List ColS) : colsCk l = 0 ↔ ColsOk l := by
  unfold colsCk ColsOk
  split
  · exact ⟨fun hh => by omega, fun hh => by omega⟩
  · rename_i h
    rw [colsGo_iff]
    simp only [List.map_nil, List.not_mem_nil, not_false_eq_true, implies_true, and_true]
    exact ⟨fun hh => ⟨by omega, hh⟩, fun hh => hh.2⟩
def boolN (b : Bool) : Nat := if b then 1 else 0
def colB (c : ColS) : List Nat := vp c.1.length ++ c.1 ++ [c.2.1.toNat, boolN c.2.2]
def catC (l : List ColS) : List Nat := l.flatMap colB
theorem catC_nil : catC [] = [] := rfl
theorem catC_snoc (l : List ColS) (c : ColS) : catC (l ++ [c]) = catC l ++ (vp c.1.length ++ c.1 ++ [c.2.1.toNat, boolN c.2.2]) := by simp [catC, colB]
theorem catC_cons (l : List ColS) (c : ColS) : catC (c :: l) = (vp c.1.length ++ c.1 ++ [c.2.1.toNat, boolN c.2.2]) ++ catC l := by simp [catC, colB]
theorem catC_len (l : List ColS) (h : ∀ x ∈ l, x.1.length ≤ 100) : (catC l).length ≤ 112 * l.length := by
  induction l with
  | nil => simp [catC]
  | cons c l ih =>
    have h1 := ih fun x hx => h x (by simp [hx])
    have h2 := h c (by simp)
    have h3 := vp_len10 (n := c.1.length) (by omega)
    rw [catC_cons]
    simp only [List.length_append, List.length_cons, List.length_nil] at *
    omega
/-- Columns' bytes behind others; none, if they may not be. -/
def putC (b : List Nat) (l : List ColS) : List Nat := if colsCk l = 0 then b ++ vp l.length ++ catC l else b

end Go.Hm

namespace Go.Proofs.Ytpbfohgmhjadpab
open Go.RowKit Go.Hm

theorem mark_any (b : Bool) (w : World) : Calls Try.prog 22 #[.bool b] w (ValPost (.int .u8 ((boolN b : Nat) : Int)) w) := by
  cases b
  all_goals
    go_enter Try.func22, Try.ntmps22
    go_wp2
    go_ret
    exact ⟨rfl, rfl⟩

set_option maxHeartbeats 2000000 in
set_option maxRecDepth 100000 in
theorem sput_any {w : World} {A A2 : Option Addr} {n c n2 c2 : Nat} {b : List Nat} {L : List ColS} (h : Reads w w.heap.size 1 A n (nums .u8 b)) (hn : n ≤ 140737488300000) (h2 : Reads w w.heap.size 3 A2 n2 (recs colV L)) (hL : ∀ x ∈ L, (∀ z ∈ x.1, z < 256) ∧ x.1.length ≤ 140737488351232) (hc : n2 ≤ c2) (hn2 : n2 ≤ 4611686018427387903) :
    Calls Try.prog 10 #[.slice A n c, .slice A2 n2 c2] w (BytesPost (putC b L) w) := by
  have P0 := Lib.hid (cols_any (c := c2) h2 hL hc hn2)
  obtain rfl := h2.lenC
  by_cases hk : colsCk L = 0
  · rw [hk] at P0
    have HO := Lib.hid (show putC b L = b ++ vp L.length ++ catC L by rw [putC, if_pos hk])
    obtain ⟨m1, m2, _⟩ := (colsCk_iff L).1 hk
    generalize putC b L = O at *
    have M2 := Lib.hid m2
    have HLL := Lib.hid hL
    have vl := vp_len10 (n := L.length) (by omega)
    have VL := Lib.hid vl
    have hln := h.len
    have LN := Lib.hid hln
    clear hk m2 hL hln
    go_enter Try.func10, Try.ntmps10
    go_wp2_with fail
    refine P0.out.mono ?_
    rintro e w1 ⟨rfl, b1⟩
    have P1 := Lib.hid (put_any A n c b L.length w1 (Reads.later h b1) (by omega) (by omega))
    go_wp2_with fail
    refine P1.out.mono ?_
    rintro e w2 ⟨A3, n3, c3, rfl, k3, b2⟩
    have b02 := New.trans b1 b2
    have Z1 := b1.size
    clear P0 P1 b1 vl
    go_wp2
    go_loopw [5, 20] (fun v i wr => ∃ (k : Nat) (A : Option Addr) (m c5 : Nat), i = .int .i64 (k : Int) ∧ k ≤ L.length ∧ v = .slice A m c5 ∧ Own wr w.heap.size 5 (.slice A m c5) (nums .u8 (b ++ vp L.length ++ catC (L.take k))) ∧ New w wr) (fun _ i _ => L.length - (intOf i).toNat)
    case atStart => exact ⟨0, _, _, _, rfl, by omega, rfl, by rw [List.take_zero, catC_nil, List.append_nil]; exact k3.base_le Z1, b02⟩
    case round =>
      obtain ⟨k, A5, m5, c5, rfl, hk, rfl, o5, b5⟩ := hrel
      have z5 := b5.size
      by_cases hlt : k < L.length
      · obtain ⟨ad, rfl, hbk, d0, d1, d2⟩ := (Reads.later h2 b5).colT hlt
        have hx : (L.getD k ([], 0, false)) ∈ L := by rw [List.getD_eq_getElem?_getD, List.getElem?_eq_getElem hlt]; exact List.getElem_mem hlt
        obtain ⟨x1, x2, x3, x4⟩ := M2.out _ hx
        have y1 := (HLL.out _ hx).1
        have T := take_snoc L k ([], 0, false) hlt
        have q5 : m5 ≤ n + 7200 := by
          have l := o5.len
          have l2 := catC_len (L.take k) (fun x hx => (M2.out x (List.mem_of_mem_take hx)).2.1)
          rw [nums_length, List.length_append, List.length_append] at l
          rw [List.length_take] at l2
          have := VL.out
          have := LN.out
          omega
        have HT := Lib.hid (show b ++ vp L.length ++ catC (L.take (k + 1)) = b ++ vp L.length ++ catC (L.take k) ++ vp (L.getD k ([], 0, false)).1.length ++ (L.getD k ([], 0, false)).1 ++ [(L.getD k ([], 0, false)).2.1.toNat, boolN (L.getD k ([], 0, false)).2.2] by rw [T, catC_snoc]; simp)
        clear T hx
        generalize (L.getD k ([], 0, false)).1 = s2 at *
        generalize (L.getD k ([], 0, false)).2.1 = t2 at *
        generalize (L.getD k ([], 0, false)).2.2 = n2 at *
        obtain ⟨t2, rfl⟩ := Int.eq_ofNat_of_zero_le x3
        rw [Int.toNat_natCast] at HT
        have zs := bstr_size s2
        have vs := vp_len10 (n := s2.length) (by omega)
        have VS := Lib.hid vs
        have Y1 := Lib.hid y1
        have hiz : (k : Int) < (L.length : Int) := by omega
        obtain ⟨W1, hW1⟩ : ∃ W, W = wr.alloc (.cells #[.string (bstr s2), .int .i64 (t2 : Int), .bool n2] 42) := ⟨_, rfl⟩
        have b51 : New w W1 := by rw [hW1]; exact Below.alloc b5 b5.size _
        have Y : Blk W1 wr.heap.size 42 #[.string (bstr s2), .int .i64 (t2 : Int), .bool n2] := by rw [hW1]; exact Blk.new _ _ _
        have o51 : Own W1 w.heap.size 5 (.slice A5 m5 c5) (nums .u8 (b ++ vp L.length ++ catC (L.take k))) := by rw [hW1]; exact o5.alloc _
        have hg7 : wr.heap.size < W1.heap.size := Y.lt
        obtain ⟨p0, p1, p2⟩ := ccells Y
        have P6 := Lib.hid (put_any none 0 0 [] s2.length W1 Reads.none_ (by omega) (by omega))
        rw [hW1] at p0 p1 p2
        rw [hW1] at P6
        clear y1 o5
        have HY := Lib.hid Y
        have HW1 := Lib.hid hW1
        clear Y vs hW1
        go_wp2_with fail
        refine P6.out.mono ?_
        rintro e w7 ⟨A7, n7, c7, rfl, k7, b7⟩
        rw [← HW1.out] at b7 k7
        rw [List.nil_append] at k7
        have b07 := New.trans b51 b7
        have o7 := o51.later b7
        have Y7 := HY.out.below b7 HY.out.lt
        have q7 : n7 ≤ 10 := by have := k7.len; rw [nums_length] at this; have := VS.out; omega
        have r7 := k7.reads
        have z7 := b07.size
        clear b7 k7 P6 p0 p1 p2 o51
        go_wp2_with (first
          | (refine wpList_pushesN elB rfl (.tmp 24) (.tmp 29) rfl (W := w) (B := w.heap.size) o7 r7 rfl rfl b07 (Nat.le_refl _) z7 (by omega) (by simp only [maxLen]; omega) ?_
             intro A8 c8 w8 _ _ o8 g8 b08 _
             have Y8 := Y7.push o7 g8 (by decide)
             obtain ⟨p0, p1, p2⟩ := ccells Y8
             have HY8 := Lib.hid Y8
             have z8 := b08.size
             clear Y8)
          | (refine wpList_pushStr elB strT rfl (.tmp 31) (.tmp 33) rfl (W := w) (B := w.heap.size) o8 Y1.out rfl rfl b08 (Nat.le_refl _) z8 (by omega) ?_
             intro A9 c9 w9 _ _ o9 g9 b09
             have HY9 := Lib.hid (HY8.out.push o8 g9 (by decide))
             have z9 := b09.size
             clear p0 p1 p2))
        have HC := Lib.hid (fun (W : World) (hW : w9.grownBy W (Value.ownBlock (.slice A9 (m5 + n7 + s2.length) c9))) => ccells (HY9.out.grown hW (fun e => o9.blk_ne HY9.out (by decide) e.symm)))
        refine wp_region_up (fun x y => x.grownBy y (Value.ownBlock (.slice A9 (m5 + n7 + s2.length) c9))) [(true, 0), (true, 1), (true, 2), (true, 3), (true, 4), (true, 5), (false, 6), (false, 7), (false, 8), (true, 9)]
          (fun x => World.grownBy.refl x _) World.grownBy.trans (by kernel_rfl) (by kernel_rfl) (by kernel_rfl) (by kernel_rfl) ?_
        have e8 : IntKind.u8.wrap (t2 : Int) = (t2 : Int) := by rw [IntKind.wrap_u8]; omega
        have MK := Lib.hid (fun W => mark_any n2 W)
        generalize hmk : boolN n2 = mk at *
        have o10 : Own (w9.alloc (.cells #[.int .u8 (t2 : Int), .int .u8 (mk : Int)] 5)).drew w.heap.size 5 (.slice A9 (m5 + n7 + s2.length) c9) (nums .u8 (b ++ vp L.length ++ catC (L.take k) ++ vp s2.length ++ s2)) := o9.alloc _
        have r10 : Reads (w9.alloc (.cells #[.int .u8 (t2 : Int), .int .u8 (mk : Int)] 5)).drew (w9.alloc (.cells #[.int .u8 (t2 : Int), .int .u8 (mk : Int)] 5)).drew.heap.size 1 (some ⟨w9.heap.size, 0, none⟩) 2 (nums .u8 [t2, mk]) := Reads.litV w9 5 #[.int .u8 (t2 : Int), .int .u8 (mk : Int)] 2 (nums .u8 [t2, mk]) rfl rfl
        repeat (first
          | (refine up_call rfl rfl (fun K hK => ?_); go_simp
             (with_reducible refine (MK.out _).mono ?_)
             rintro e w11 ⟨rfl, rfl⟩
             refine hK _ _ (World.grownBy.refl _ _) ?_
             clear hK)
          | (refine up_quiet rfl rfl (v := ?_) (fun W hW => ?_) ?_; rotate_left; (obtain ⟨p0, p1, p2⟩ := HC.out W (World.grownBy.trans grown_drew hW); go_simp <;> with_reducible rfl); simp only [Act.put, List.setIfInBounds_toArray, List.set_cons_zero, List.set_cons_succ]))
        refine up_call rfl rfl (fun K hK => ?_)
        go_simp
        refine hK _ _ (World.grownBy_alloc w9.drew _ _) ?_
        clear hK
        refine up_call rfl rfl (fun K hK => ?_)
        have b10 : Below w.heap.size w (w9.alloc (.cells #[.int .u8 (t2 : Int), .int .u8 (mk : Int)] 5)).drew := (b09.alloc z9 _).drew
        refine wp_pushes elB (.tmp 35) (.tmp 42) rfl (W := w) (B := w.heap.size) o10 r10 (by omega) rfl rfl b10 (Nat.le_refl _) b10.size (nums_oneCell _ _) (by rw [← o10.len]; omega) (by rw [← o10.len]; simp only [maxLen]; omega) ?_
        intro A11 c11 w11 _ _ o11 g11 b11
        refine hK _ _ g11 ?_
        clear hK
        rw [← nums_append, ← o10.len] at o11
        rw [← o10.len]
        refine up_quiet rfl rfl (v := ?_) (fun W hW => ?_) ?_
        rotate_left
        · go_simp <;> with_reducible rfl
        simp only [Act.put, List.setIfInBounds_toArray, List.set_cons_zero, List.set_cons_succ]
        refine up_nil ?_
        go_wp2
        go_roundw
        case rel => exact ⟨k + 1, _, _, _, by go_num, by omega, rfl, by rw [HT.out]; exact o11, b11⟩
        case measure => simp [intOf]; omega
      · obtain rfl : k = L.length := by omega
        rw [List.take_length] at o5
        go_wp2
        go_ret
        exact ⟨_, _, _, rfl, by rw [HO.out]; exact o5, b5⟩
  · have HO := Lib.hid (show putC b L = b by rw [putC, if_neg hk])
    generalize putC b L = O at *
    generalize colsCk L = ck at *
    have e1 : (ck != 0) = true := by simpa using hk
    clear hk
    go_enter Try.func10, Try.ntmps10
    go_wp2_with fail
    refine P0.out.mono ?_
    rintro e w1 ⟨rfl, b1⟩
    have P1 := Lib.hid (clone_any (c := c) (Reads.later h b1) (by omega))
    clear P0
    go_wp2_with fail
    refine P1.out.mono ?_
    rintro e w2 ⟨A3, n3, c3, rfl, k3, b2⟩
    have Z1 := b1.size
    go_wp2
    go_ret
    exact ⟨_, _, _, rfl, by rw [HO.out]; exact k3.base_le Z1, New.trans b1 b2⟩

end Go.Proofs.Ytpbfohgmhjadpab
