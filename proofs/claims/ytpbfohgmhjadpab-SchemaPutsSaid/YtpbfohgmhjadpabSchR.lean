/- The answer's columns as bytes. -/
import Derived.Test.YtpbfohgmhjadpabSch
import Derived.Test.YtpbfohgmhjadpabColsR
import Derived.Test.YtpbfohgmhjadpabRefV

namespace Go.Proofs.Ytpbfohgmhjadpab
open Go.RowKit Go.Hm

set_option maxHeartbeats 2000000 in
set_option maxRecDepth 100000 in
theorem rsput_any {w : World} {A A2 : Option Addr} {n c n2 c2 : Nat} {b : List Nat} {L : List ColS} (h : Reads w w.heap.size 1 A n (nums .u8 b)) (hn : n ≤ 140737488300000) (h2 : Reads w w.heap.size 3 A2 n2 (recs colV L)) (hL : ∀ x ∈ L, (∀ z ∈ x.1, z < 256) ∧ x.1.length ≤ 140737488351232) (hn2 : n2 ≤ 4611686018427387903) :
    Calls Try.prog 11 #[.slice A n c, .slice A2 n2 c2] w (BytesPost (putC b L) w) := by
  obtain rfl := h2.lenC
  have hln := h.len
  have CC := Lib.hid (fun (W : World) (hW : New w W) => rcols_any (c := c2) (Reads.later h2 hW) hL hn2)
  have hc : colsCk L = 0 ∨ ¬ colsCk L = 0 := Classical.em _
  rcases hc with hk | hk
  · rw [hk] at CC
    have HO := Lib.hid (show putC b L = b ++ vp L.length ++ catC L by rw [putC, if_pos hk])
    obtain ⟨m1, m2, _⟩ := (colsCk_iff L).1 hk
    generalize putC b L = O at *
    have M2 := Lib.hid m2
    have HLL := Lib.hid hL
    have vl := vp_len10 (n := L.length) (by omega)
    have VL := Lib.hid vl
    have LN := Lib.hid hln
    clear hk m2 hL hln
    go_enter Try.func11, Try.ntmps11
    go_wp2_with (refine wpList_pushesN elB rfl (.tmp 8) (.tmp 9) rfl (W := w) (B := w.heap.size) (k := .u8) (l := []) (l2 := b) (c2 := c) (Own.empty _ _) ((h.alloc (Nat.le_refl _) _).more (by simp)) rfl rfl ((Below.refl _ _).alloc (Nat.le_refl _) _) (Nat.le_refl _) (by simp) (by omega) (by simp only [maxLen]; omega) ?_
                 simp only [Nat.zero_add, List.nil_append]
                 intro A1 c1 w1 _ _ o1 _ b1 _)
    refine (CC.out w1 b1).mono ?_
    rintro e w2 ⟨rfl, b2⟩
    have b02 := New.trans b1 b2
    have o2 := o1.later b2
    have P3 := Lib.hid (rput_any (c := c1) L.length o2.reads (by omega) (by omega))
    clear b1 b2 o1 CC vl
    go_wp2_with fail
    refine P3.out.mono ?_
    rintro e w3 ⟨A3, n3, c3, rfl, k3, b3⟩
    have z2 := b02.size
    have b03 := New.trans b02 b3
    have k3 := k3.base_le z2
    clear P3 o2 b02 b3 z2
    go_wp2
    go_loopw [5, 7] (fun v i wr => ∃ (k : Nat) (A : Option Addr) (m c5 : Nat), i = .int .i64 (k : Int) ∧ k ≤ L.length ∧ v = .slice A m c5 ∧ Own wr w.heap.size 5 (.slice A m c5) (nums .u8 (b ++ vp L.length ++ catC (L.take k))) ∧ New w wr) (fun _ i _ => L.length - (intOf i).toNat)
    case atStart => exact ⟨0, _, _, _, rfl, by omega, rfl, by rw [List.take_zero, catC_nil, List.append_nil]; exact k3, b03⟩
    case round =>
      obtain ⟨k, A5, m5, c5, rfl, hk, rfl, o5, b5⟩ := hrel
      have z5 := b5.size
      by_cases hlt : k < L.length
      · obtain ⟨ad, rfl, hbk, d0, d1, d2⟩ := (Reads.later h2 b5).colT hlt
        have HC := Lib.hid (show ∀ W, New w W → W.cell? (ad.add (k * 3)) = some (.string (bstr (L.getD k ([], 0, false)).1)) ∧ W.cell? ⟨(ad.add (k * 3)).block, (ad.add (k * 3)).off + 1, none⟩ = some (.int .i64 (L.getD k ([], 0, false)).2.1) ∧ W.cell? ⟨(ad.add (k * 3)).block, (ad.add (k * 3)).off + 2, none⟩ = some (.bool (L.getD k ([], 0, false)).2.2) from fun W hW => by
          obtain ⟨ad', e', _, d0, d1, d2⟩ := (Reads.later h2 hW).colT hlt
          cases e'
          exact ⟨d0, d1, d2⟩)
        have hx : (L.getD k ([], 0, false)) ∈ L := by rw [List.getD_eq_getElem?_getD, List.getElem?_eq_getElem hlt]; exact List.getElem_mem hlt
        obtain ⟨x1, x2, x3, x4⟩ := M2.out _ hx
        have y1 := (HLL.out _ hx).1
        have T := take_snoc L k ([], 0, false) hlt
        have q5 : m5 ≤ n + 7200 := by
          have l := o5.len
          have l2 := catC_len (L.take k) (fun x hx => (M2.out x (List.mem_of_mem_take hx)).2.1)
          rw [nums_length, List.length_append, List.length_append] at l
          rw [List.length_take] at l2
          have := VL.out
          have := LN.out
          omega
        have HT := Lib.hid (show b ++ vp L.length ++ catC (L.take (k + 1)) = b ++ vp L.length ++ catC (L.take k) ++ vp (L.getD k ([], 0, false)).1.length ++ (L.getD k ([], 0, false)).1 ++ [(L.getD k ([], 0, false)).2.1.toNat] ++ [boolN (L.getD k ([], 0, false)).2.2] by rw [T, catC_snoc]; simp)
        clear T hx
        generalize (L.getD k ([], 0, false)).1 = s2 at *
        generalize (L.getD k ([], 0, false)).2.1 = t2 at *
        generalize (L.getD k ([], 0, false)).2.2 = nu at *
        obtain ⟨t2, rfl⟩ := Int.eq_ofNat_of_zero_le x3
        rw [Int.toNat_natCast] at HT
        have zs := bstr_size s2
        have VS := Lib.hid (vp_len10 (n := s2.length) (by omega))
        have Y1 := Lib.hid y1
        have hiz : (k : Int) < (L.length : Int) := by omega
        have e8 : IntKind.u8.wrap (t2 : Int) = (t2 : Int) := by rw [IntKind.wrap_u8]; omega
        have P6 := Lib.hid (rput_any (c := c5) s2.length o5.reads (by omega) (by omega))
        clear y1 d1 d2
        go_wp2_with fail
        refine P6.out.mono ?_
        rintro e w7 ⟨A7, n7, c7, rfl, k7, b7⟩
        have b07 := New.trans b5 b7
        have k7 := k7.base_le z5
        have q7 : n7 ≤ m5 + 10 := by have l := k7.len; have l5 := o5.len; rw [nums_length, List.length_append] at l; rw [nums_length] at l5; have := VS.out; omega
        have z7 := b07.size
        obtain ⟨p0, p1, p2⟩ := HC.out w7 b07
        clear d0 b7 P6 o5
        cases nu
        all_goals
          go_wp2_with (first
            | (refine wpList_pushStr elB strT rfl (.tmp 36) (.tmp 41) rfl (W := w) (B := w.heap.size) k7 Y1.out rfl rfl b07 (Nat.le_refl _) z7 (by omega) ?_
               intro A9 c9 w9 _ _ o9 g9 b09
               have z9 := b09.size
               obtain ⟨p0, p1, p2⟩ := HC.out w9 b09)
            | (refine wpList_pushN elB rfl (.tmp 43) (.tmp 50) rfl (W := w) (B := w.heap.size) o9 rfl rfl t2 rfl b09 (Nat.le_refl _) z9 (by omega) (by simp only [maxLen]; omega) ?_
               intro A10 c10 w10 _ _ o10 g10 b10 _ _
               have z10 := b10.size
               obtain ⟨p0, p1, p2⟩ := HC.out w10 b10)
            | (refine wpList_pushN elB rfl (.tmp 57) (.tmp 58) rfl (W := w) (B := w.heap.size) o10 rfl rfl 1 rfl b10 (Nat.le_refl _) z10 (by omega) (by simp only [maxLen]; omega) ?_
               intro A11 c11 w11 _ _ o11 g11 b11 _ _)
            | (refine wpList_pushN elB rfl (.tmp 60) (.tmp 61) rfl (W := w) (B := w.heap.size) o10 rfl rfl 0 rfl b10 (Nat.le_refl _) z10 (by omega) (by simp only [maxLen]; omega) ?_
               intro A11 c11 w11 _ _ o11 g11 b11 _ _))
          go_roundw
          case rel => exact ⟨k + 1, _, _, _, by go_num, by omega, rfl, by rw [HT.out]; exact o11, b11⟩
          case measure => simp [intOf]; omega
      · obtain rfl : k = L.length := by omega
        rw [List.take_length] at o5
        go_wp2
        go_ret
        exact ⟨_, _, _, rfl, by rw [HO.out]; exact o5, b5⟩
  · have HO := Lib.hid (show putC b L = b by rw [putC, if_neg hk])
    generalize putC b L = O at *
    generalize colsCk L = ck at *
    have e1 : (ck != 0) = true := by simpa using hk
    clear hk hln
    go_enter Try.func11, Try.ntmps11
    go_wp2_with (refine wpList_pushesN elB rfl (.tmp 8) (.tmp 9) rfl (W := w) (B := w.heap.size) (k := .u8) (l := []) (l2 := b) (c2 := c) (Own.empty _ _) ((h.alloc (Nat.le_refl _) _).more (by simp)) rfl rfl ((Below.refl _ _).alloc (Nat.le_refl _) _) (Nat.le_refl _) (by simp) (by omega) (by simp only [maxLen]; omega) ?_
                 simp only [Nat.zero_add, List.nil_append]
                 intro A1 c1 w1 _ _ o1 _ b1 _)
    refine (CC.out w1 b1).mono ?_
    rintro e w2 ⟨rfl, b2⟩
    have o2 := o1.later b2
    go_wp2
    go_ret
    exact ⟨_, _, _, rfl, by rw [HO.out]; exact o2, New.trans b1 b2⟩

end Go.Proofs.Ytpbfohgmhjadpab
