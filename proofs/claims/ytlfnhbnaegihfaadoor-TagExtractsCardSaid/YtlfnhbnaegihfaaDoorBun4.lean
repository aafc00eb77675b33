/- Texts merged, for a claim has at most 60 files: TagA, TagB, TagS, TagP, TagQ, TagK, TagH, TagX, TagE, TagG, TagR. -/
import Derived.DeepKeys4
import Derived.Maps.Own
import Derived.Maps.OwnOps
import Derived.Maps.Views
import Derived.Test.YtlfnhbnaegihfaaDoorBun1
import Derived.Test.YtlfnhbnaegihfaaDoorBun3
import Derived.WideKeyArr
/- Contracts on tag.Frame, hypostyleref02.Frame. -/

namespace Go.Hm
open Go Go.RowKit
/-- What stands in a frame ahead of its parts, and so many of them. -/
def headL (s : List Nat) (n : Nat) : List Nat := s.length :: (s ++ [n])
def upL (s : List Nat) (L : List (List Nat)) (k : Nat) : List Nat := headL s L.length ++ (L.take k).flatMap partL
theorem headL_len (s : List Nat) (n : Nat) : (headL s n).length = s.length + 2 := by simp [headL]
theorem upL_zero (s : List Nat) (L : List (List Nat)) : upL s L 0 = headL s L.length := by simp [upL]
theorem upL_all (s : List Nat) (L : List (List Nat)) : upL s L L.length = frameL s L := by simp [upL, headL, frameL]
theorem upL_snoc (s : List Nat) (L : List (List Nat)) {k : Nat} (hk : k < L.length) : upL s L (k + 1) = upL s L k ++ partL (L.getD k []) := by
  rw [upL, upL, take_snoc _ k [] hk, List.flatMap_append, List.append_assoc]; simp
theorem upL_len (s : List Nat) (L : List (List Nat)) {k : Nat} (hk : k ≤ L.length) : (upL s L k).length = 2 + s.length + 8 * k + tsum (L.take k) := by
  rw [upL, List.length_append, headL_len, parts_len, List.length_take, Nat.min_eq_left hk]
  unfold tsum
  omega

end Go.Hm

namespace Go.Proofs.YtlfnhbnaegihfaaDoor
open Go.RowKit Go.Hm
set_option maxHeartbeats 2000000 in
set_option maxRecDepth 100000 in
theorem frame_any {w : World} {s : List Nat} {A : Option Addr} {n c : Nat} {D : List PartS} (h : RowsAt w A n c D) (hn : n ≤ 9223372036854775806) (hs8 : ∀ x ∈ s, x < 256) (hs : s.length ≤ 140737488351232) (ht : tsum (bytesOf D) ≤ 1099511627776) :
    Calls Tryd.prog 11 #[.string (bstr s), .slice A n c] w (OptB (frameO s (bytesOf D)) w) := by
  obtain rfl := h.len
  have hz := bstr_size s
  have hB := bytesOf_len D
  have HR := Lib.hid h
  have H8 := Lib.hid hs8
  have HT := Lib.hid ht
  by_cases h1 : s.length = 0
  · have hO : frameO s (bytesOf D) = none := by unfold frameO; exact if_neg (by omega)
    rw [hO]
    obtain rfl := List.eq_nil_of_length_eq_zero h1
    clear h hs8 ht hO
    go_enter Tryd.func11, Tryd.ntmps11
    go_wp2
    go_ret2
    exact ⟨rfl, Below.refl _ _⟩
  by_cases h2 : 255 < s.length
  · have hO : frameO s (bytesOf D) = none := by unfold frameO; exact if_neg (by omega)
    rw [hO]
    have d0 : ((s.length : Int) == 0) = false := by rw [beq_eq_false_iff_ne]; omega
    have d1 : decide ((255 : Int) < (s.length : Int)) = true := by simp; omega
    clear h hs8 ht hO
    go_enter Tryd.func11, Tryd.ntmps11
    go_wp2
    go_ret2
    exact ⟨rfl, Below.refl _ _⟩
  by_cases h3 : 255 < D.length
  · have hO : frameO s (bytesOf D) = none := by unfold frameO; exact if_neg (by omega)
    rw [hO]
    have d0 : ((s.length : Int) == 0) = false := by rw [beq_eq_false_iff_ne]; omega
    have d1 : decide ((255 : Int) < (s.length : Int)) = false := by simp; omega
    have d2 : decide ((255 : Int) < (D.length : Int)) = true := by simp; omega
    clear h hs8 ht hO
    go_enter Tryd.func11, Tryd.ntmps11
    go_wp2
    go_ret2
    exact ⟨rfl, Below.refl _ _⟩
  have hO : frameO s (bytesOf D) = some (frameL s (bytesOf D)) := by unfold frameO; exact if_pos (by omega)
  rw [hO]
  have d0 : ((s.length : Int) == 0) = false := by rw [beq_eq_false_iff_ne]; omega
  have d1 : decide ((255 : Int) < (s.length : Int)) = false := by simp; omega
  have d2 : decide ((255 : Int) < (D.length : Int)) = false := by simp; omega
  have hD : D.length ≤ 255 := by omega
  have hs2 : s.length ≤ 255 := by omega
  have HB := Lib.hid hB
  have a1 : IntKind.u8.wrap (s.length : Int) = (s.length : Int) := by simp [IntKind.wrap, IntKind.bits, IntKind.signed]; omega
  clear h hs8 ht hO h1 h2 h3 hB
  go_enter Tryd.func11, Tryd.ntmps11
  go_wp2
  go_loop [6, 31] (fun z i => ∃ (k m : Nat), k ≤ D.length ∧ i = .int .i64 (k : Int) ∧ z = .int .i64 (m : Int) ∧ m ≤ 1099511640000 ∧ Hid (m = 2 + s.length + 8 * k + tsum ((bytesOf D).take k))) (fun _ i => D.length - (intOf i).toNat)
  case atStart => exact ⟨0, 2 + s.length, by omega, rfl, by go_num, by omega, Lib.hid (by simp [tsum])⟩
  case round =>
    obtain ⟨k, m, hk, rfl, rfl, hm, HM⟩ := hrel
    by_cases hlt : k < D.length
    · obtain ⟨ad, rfl, hb, hc⟩ := HR.out.at_ hlt
      have e1 := bytesOf_at D k
      generalize D.getD k (none, 0, []) = d at *
      have h4 := tsum_take (L := bytesOf D) (k := k) (by rw [HB.out]; exact hlt)
      rw [e1] at h4
      have h6 := tsum_take_le (bytesOf D) (k + 1)
      have hm3 : m + (8 + d.2.2.length) = 2 + s.length + 8 * (k + 1) + tsum ((bytesOf D).take (k + 1)) := by rw [h4, HM.out]; omega
      have hd : d.2.2.length ≤ 1099511627776 := by have := HT.out; omega
      have hm4 : m + (8 + d.2.2.length) ≤ 1099511640000 := by have := HT.out; omega
      have HM3 := Lib.hid hm3
      clear e1 h4 h6 hm3
      obtain ⟨m2, hm2⟩ : ∃ x, x = m + (8 + d.2.2.length) := ⟨_, rfl⟩
      have i1 : (m : Int) + (8 + (d.2.2.length : Int)) = (m2 : Int) := by omega
      rw [← hm2] at HM3 hm4
      clear hm2
      go_wp2
      go_round
      case rel => exact ⟨k + 1, m2, by omega, by go_num, by go_num, hm4, HM3⟩
      case measure => simp [intOf]; omega
    · obtain rfl : k = D.length := by omega
      clear HM
      have a1 : (s.length : Int) % 256 = (s.length : Int) := by omega
      have a2 : (D.length : Int) % 256 = (D.length : Int) := by omega
      go_wp2_with (first
        | (refine wpList_mk elB rfl (.const (.int .i64 0)) (.tmp 41) rfl (W := w) (B := w.heap.size) 0 m rfl rfl rfl rfl (by omega) (Below.refl _ _) (Nat.le_refl _) rfl (by omega) (by simp only [maxLen]; omega) ?_
           intro w1 o1 g1 b1 s1
           have z1 := b1.size
           clear g1 s1)
        | (refine wpList_pushN elB rfl (.tmp 43) (.tmp 47) rfl (W := w) (B := w.heap.size) (k := .u8) (l := []) o1 rfl rfl s.length rfl b1 (Nat.le_refl _) z1 (by omega) (by simp only [maxLen]; omega) ?_
           intro A2 c2 w2 _ _ o2 _ b2 _ _
           have z2 := b2.size)
        | (refine wpList_pushStr elB strT rfl (.tmp 49) (.tmp 50) rfl (W := w) (B := w.heap.size) o2 H8.out rfl rfl b2 (Nat.le_refl _) z2 (by omega) ?_
           intro A3 c3 w3 _ _ o3 _ b3
           have z3 := b3.size)
        | (refine wpList_pushN elB rfl (.tmp 52) (.tmp 56) rfl (W := w) (B := w.heap.size) o3 rfl rfl D.length rfl b3 (Nat.le_refl _) z3 (by omega) (by simp only [maxLen]; omega) ?_
           intro A4 c4 w4 _ _ o4 _ b4 _ _))
      have B4 := Lib.hid b4
      have O4 := Lib.hid (show Own w4 w.heap.size 5 (.slice A4 (0 + 1 + s.length + 1) c4) (nums .u8 (upL s (bytesOf D) 0)) by rw [upL_zero, headL, HB.out]; simpa using o4)
      clear o1 b1 z1 o2 b2 z2 o3 b3 z3 o4 b4
      have R4 := Lib.hid (HR.out)
      obtain ⟨q4, hq4⟩ : ∃ q, q = 0 + 1 + s.length + 1 := ⟨_, rfl⟩
      rw [← hq4] at O4 ⊢
      have HQ4 := Lib.hid (show q4 = 2 + s.length + 8 * 0 + tsum ((bytesOf D).take 0) by rw [hq4]; simp [tsum]; omega)
      clear hq4
      go_loopw [9, 60] (fun v i wr => ∃ (k q c : Nat) (A : Option Addr), k ≤ D.length ∧ i = .int .i64 (k : Int) ∧ v = .slice A q c ∧ Hid (q = 2 + s.length + 8 * k + tsum ((bytesOf D).take k)) ∧ Hid (Own wr w.heap.size 5 (.slice A q c) (nums .u8 (upL s (bytesOf D) k))) ∧ Hid (New w wr)) (fun _ i _ => D.length - (intOf i).toNat)
      case atStart => exact ⟨0, q4, c4, A4, by omega, rfl, rfl, HQ4, O4, B4⟩
      case round =>
        clear HQ4 O4 B4
        obtain ⟨k, q, cq, Aq, hk, rfl, rfl, HQ, O, b⟩ := hrel
        by_cases hlt : k < D.length
        · obtain ⟨ad, rfl, hb, hc⟩ := (HR.out.later b.out).at_ hlt
          have RD := Lib.hid (fun (W : World) (hW : New w W) => ((HR.out.later hW).parts.at_ hlt).1)
          have e1 := bytesOf_at D k
          have US := upL_snoc s (bytesOf D) (k := k) (by rw [HB.out]; exact hlt)
          have h4 := tsum_take (L := bytesOf D) (k := k) (by rw [HB.out]; exact hlt)
          have h6 := tsum_take_le (bytesOf D) (k + 1)
          rw [e1] at h4 US
          generalize D.getD k (none, 0, []) = d at *
          have hp : d.2.2.length ≤ 1099511627776 := by have := HT.out; omega
          have hq : q ≤ 1099511640000 := by have := HT.out; have := HQ.out; omega
          have HQ2 := Lib.hid (show q + 8 + d.2.2.length = 2 + s.length + 8 * (k + 1) + tsum ((bytesOf D).take (k + 1)) by rw [h4, HQ.out]; omega)
          have HUS := Lib.hid US
          have O2 := Lib.hid (show Own wr w.heap.size 5 (.slice Aq (q + 0) cq) (nums .u8 (upL s (bytesOf D) k ++ low d.2.2.length 0)) by simpa [low] using O.out)
          have hlow := Lib.hid (fun j => show (upL s (bytesOf D) k ++ low d.2.2.length j).length = (upL s (bytesOf D) k).length + j by rw [List.length_append, low_len])
          clear e1 US h4 h6 HQ O
          go_wp2
          go_loopw [9, 64] (fun v i wr => ∃ (j c : Nat) (A : Option Addr), j ≤ 8 ∧ i = .int .i64 (j : Int) ∧ v = .slice A (q + j) c ∧ Hid (Own wr w.heap.size 5 (.slice A (q + j) c) (nums .u8 (upL s (bytesOf D) k ++ low d.2.2.length j))) ∧ Hid (New w wr)) (fun _ i _ => 8 - (intOf i).toNat)
          case atStart => exact ⟨0, cq, Aq, by omega, rfl, rfl, O2, b⟩
          case round =>
            clear O2 b hc hb
            obtain ⟨j, cj, Aj, hj, rfl, rfl, O, b⟩ := hrel
            by_cases hlj : j < 8
            · have S := Lib.hid (byte_at d.2.2.length j)
              have j1 : (8 : Int) * (j : Int) < 64 := by omega
              have o := O.out
              have b0 := b.out
              have hz := b0.size
              clear O b
              go_wp2_with (refine wpList_pushN elB rfl (.tmp 67) (.tmp 75) rfl (W := w) (B := w.heap.size) o rfl rfl (d.2.2.length / 256 ^ j % 256) (by rw [S.out]) b0 (Nat.le_refl _) (by omega) (by omega) (by simp only [maxLen]; omega) ?_
                           intro A3 c3 w3 _ _ o3 _ b3 _ _)
              have O3 := Lib.hid (show Own w3 w.heap.size 5 (.slice A3 (q + (j + 1)) c3) (nums .u8 (upL s (bytesOf D) k ++ low d.2.2.length (j + 1))) by rw [List.append_assoc] at o3; exact o3)
              have B3 := Lib.hid b3
              clear o o3 b0 b3
              go_roundw
              case rel => exact ⟨j + 1, c3, A3, by omega, by go_num, rfl, O3, B3⟩
              case measure => simp [intOf]; omega
            · obtain rfl : j = 8 := by omega
              have o := O.out
              have b0 := b.out
              have r0 := RD.out _ b0
              have hz := b0.size
              clear O b
              go_wp2_with (refine wpList_pushesN elB rfl (.tmp 78) (.tmp 79) rfl (W := w) (B := w.heap.size) (base := w.heap.size) o r0 rfl rfl b0 (Nat.le_refl _) (by omega) (by omega) (by simp only [maxLen]; omega) ?_
                           intro A3 c3 w3 _ _ o3 _ b3 _)
              have O3 := Lib.hid (show Own w3 w.heap.size 5 (.slice A3 (q + 8 + d.2.2.length) c3) (nums .u8 (upL s (bytesOf D) (k + 1))) by rw [HUS.out, partL, ← List.append_assoc]; exact o3)
              have B3 := Lib.hid b3
              clear o o3 b0 b3 r0
              go_roundw
              case rel => exact ⟨k + 1, q + 8 + d.2.2.length, c3, A3, by omega, by go_num, rfl, HQ2, O3, B3⟩
              case measure => simp [intOf]; omega
        · obtain rfl : k = D.length := by omega
          have o := O.out
          rw [← HB.out, upL_all] at o
          have O5 := Lib.hid o
          clear o O
          go_wp2
          go_ret2
          exact ⟨_, _, _, rfl, O5.out, b.out⟩

end Go.Proofs.YtlfnhbnaegihfaaDoor
/- Contracts on hypostyleref02.Frame, Same. -/

namespace Go.Proofs.YtlfnhbnaegihfaaDoor
open Go.RowKit Go.Hm
set_option maxHeartbeats 1000000 in
theorem long_any {w : World} (x : Nat) (hx : x ≤ 9223372036854775807) :
    Calls Tryd.prog 24 #[.int .i64 (x : Int)] w (BytesPost (low x 8) w) := by
  go_enter Tryd.func24, Tryd.ntmps24
  go_wp2
  go_loopw [0, 3, 4] (fun n v i wr => ∃ (k c : Nat) (A : Option Addr), k ≤ 8 ∧ i = .int .i64 (k : Int) ∧ n = .int .i64 ((x / 256 ^ k : Nat) : Int) ∧ v = .slice A k c ∧ Hid (Own wr w.heap.size 5 (.slice A k c) (nums .u8 (low x k))) ∧ Hid (New w wr)) (fun _ _ i _ => 8 - (intOf i).toNat)
  case atStart => exact ⟨0, 0, none, by omega, rfl, by simp, rfl, Lib.hid Own.nil_, Lib.hid (Below.refl _ _)⟩
  case round =>
    obtain ⟨k, c, A, hk, rfl, rfl, rfl, O, b⟩ := hrel
    by_cases hlt : k < 8
    · obtain ⟨y, hy⟩ : ∃ y, y = x / 256 ^ k := ⟨_, rfl⟩
      have S := Lib.hid (show (y : Int) % 256 = ((x / 256 ^ k % 256 : Nat) : Int) by rw [← hy]; omega)
      have hyx : y ≤ x := by rw [hy]; exact Nat.div_le_self _ _
      have HY := Lib.hid (show x / 256 ^ (k + 1) = y / 256 by rw [hy, Nat.pow_succ, Nat.div_div_eq_div_mul])
      have o := O.out
      have b0 := b.out
      have hz := b0.size
      rw [← hy]
      obtain ⟨z, hz2⟩ : ∃ z, z = y / 256 := ⟨_, rfl⟩
      have q1 : (y : Int).tdiv 256 = (z : Int) := by rw [Int.tdiv_eq_ediv_of_nonneg (by omega)]; omega
      have q2 : (y : Int) / 256 = (z : Int) := by omega
      rw [← hz2] at HY
      clear O b hy hz2
      go_wp2_with (refine wpList_pushN elB rfl (.tmp 9) (.tmp 12) rfl (W := w) (B := w.heap.size) o rfl rfl (x / 256 ^ k % 256) (by rw [S.out]) b0 (Nat.le_refl _) (by omega) (by omega) (by simp only [maxLen]; omega) ?_
                   intro A3 c3 w3 _ _ o3 _ b3 _ _)
      have O3 := Lib.hid (show Own w3 w.heap.size 5 (.slice A3 (k + 1) c3) (nums .u8 (low x (k + 1))) from o3)
      have B3 := Lib.hid b3
      clear o o3 b0 b3
      go_roundw
      case rel => exact ⟨k + 1, c3, A3, by omega, by go_num, by rw [HY.out], rfl, O3, B3⟩
      case measure => simp [intOf]; omega
    · obtain rfl : k = 8 := by omega
      go_wp2
      go_ret
      exact ⟨A, 8, c, rfl, O.out, b.out⟩
set_option maxHeartbeats 2000000 in
set_option maxRecDepth 100000 in
theorem rframe_any {w : World} {s : List Nat} {A : Option Addr} {n c : Nat} {D : List PartS} (h : RowsAt w A n c D) (hn : n ≤ 9223372036854775806) (hs8 : ∀ x ∈ s, x < 256) (hs : s.length ≤ 140737488351232) (ht : tsum (bytesOf D) ≤ 1099511627776) :
    Calls Tryd.prog 12 #[.string (bstr s), .slice A n c] w (OptB (frameO s (bytesOf D)) w) := by
  obtain rfl := h.len
  have hz := bstr_size s
  have hB := bytesOf_len D
  have HR := Lib.hid h
  have H8 := Lib.hid hs8
  have HT := Lib.hid ht
  by_cases h1 : s.length < 1
  · have hO : frameO s (bytesOf D) = none := by unfold frameO; exact if_neg (by omega)
    rw [hO]
    obtain rfl := List.eq_nil_of_length_eq_zero (show s.length = 0 by omega)
    clear h hs8 ht hO
    go_enter Tryd.func12, Tryd.ntmps12
    go_wp2
    go_ret2
    exact ⟨rfl, Below.refl _ _⟩
  by_cases h2 : 255 < s.length
  · have hO : frameO s (bytesOf D) = none := by unfold frameO; exact if_neg (by omega)
    rw [hO]
    have d0 : decide ((s.length : Int) < 1) = false := decide_eq_false (by omega)
    have d1 : decide ((255 : Int) < (s.length : Int)) = true := decide_eq_true (by omega)
    clear h hs8 ht hO
    go_enter Tryd.func12, Tryd.ntmps12
    go_wp2
    go_ret2
    exact ⟨rfl, Below.refl _ _⟩
  by_cases h3 : 255 < D.length
  · have hO : frameO s (bytesOf D) = none := by unfold frameO; exact if_neg (by omega)
    rw [hO]
    have d0 : decide ((s.length : Int) < 1) = false := decide_eq_false (by omega)
    have d1 : decide ((255 : Int) < (s.length : Int)) = false := decide_eq_false (by omega)
    have d2 : decide ((255 : Int) < (D.length : Int)) = true := decide_eq_true (by omega)
    clear h hs8 ht hO
    go_enter Tryd.func12, Tryd.ntmps12
    go_wp2
    go_ret2
    exact ⟨rfl, Below.refl _ _⟩
  have hO : frameO s (bytesOf D) = some (frameL s (bytesOf D)) := by unfold frameO; exact if_pos (by omega)
  rw [hO]
  have d0 : decide ((s.length : Int) < 1) = false := decide_eq_false (by omega)
  have d1 : decide ((255 : Int) < (s.length : Int)) = false := decide_eq_false (by omega)
  have d2 : decide ((255 : Int) < (D.length : Int)) = false := decide_eq_false (by omega)
  have hD : D.length ≤ 255 := by omega
  have hs2 : s.length ≤ 255 := by omega
  have HB := Lib.hid hB
  have a1 : (s.length : Int) % 256 = (s.length : Int) := by omega
  have a2 : (D.length : Int) % 256 = (D.length : Int) := by omega
  have o1 : Own (w.alloc (.cells #[.int .u8 (s.length : Int)] 5)) w.heap.size 5 (.slice (some ⟨w.heap.size, 0, none⟩) 1 1) (nums .u8 [s.length]) := own_lit w 5 .u8 [s.length] (by simp [maxLen])
  have b1 : New w (w.alloc (.cells #[.int .u8 (s.length : Int)] 5)) := (Below.refl _ _).alloc (Nat.le_refl _) _
  have z1 := b1.size
  clear h hs8 ht hO h1 h2 h3 hB
  go_enter Tryd.func12, Tryd.ntmps12
  go_wp2_with (first
    | (refine wpList_pushStr elB strT rfl (.tmp 25) (.tmp 26) rfl (W := w) (B := w.heap.size) o1 H8.out rfl rfl b1 (Nat.le_refl _) z1 (by omega) ?_
       intro A3 c3 w3 _ _ o3 _ b3
       have z3 := b3.size
       clear o1 b1 z1)
    | (refine wpList_pushN elB rfl (.tmp 28) (.tmp 32) rfl (W := w) (B := w.heap.size) o3 rfl rfl D.length rfl b3 (Nat.le_refl _) z3 (by omega) (by simp only [maxLen]; omega) ?_
       intro A4 c4 w4 _ _ o4 _ b4 _ _
       clear o3 z3 b3))
  have B4 := Lib.hid b4
  have O4 := Lib.hid (show Own w4 w.heap.size 5 (.slice A4 (1 + s.length + 1) c4) (nums .u8 (upL s (bytesOf D) 0)) by rw [upL_zero, headL, HB.out]; simpa using o4)
  clear o4 b4
  obtain ⟨q4, hq4⟩ : ∃ q, q = 1 + s.length + 1 := ⟨_, rfl⟩
  rw [← hq4] at O4 ⊢
  have HQ4 := Lib.hid (show q4 = 2 + s.length + 8 * 0 + tsum ((bytesOf D).take 0) by rw [hq4]; simp [tsum]; omega)
  clear hq4
  go_loopw [6, 7] (fun v i wr => ∃ (k q c : Nat) (A : Option Addr), k ≤ D.length ∧ i = .int .i64 (k : Int) ∧ v = .slice A q c ∧ Hid (q = 2 + s.length + 8 * k + tsum ((bytesOf D).take k)) ∧ Hid (Own wr w.heap.size 5 (.slice A q c) (nums .u8 (upL s (bytesOf D) k))) ∧ Hid (New w wr)) (fun _ i _ => D.length - (intOf i).toNat)
  case atStart => exact ⟨0, q4, c4, A4, by omega, rfl, rfl, HQ4, O4, B4⟩
  case round =>
    clear HQ4 O4 B4
    obtain ⟨k, q, cq, Aq, hk, rfl, rfl, HQ, O, b⟩ := hrel
    by_cases hlt : k < D.length
    · obtain ⟨ad, rfl, hb, hc⟩ := (HR.out.later b.out).at_ hlt
      have RD := Lib.hid (fun (W : World) (hW : New w W) => ((HR.out.later hW).parts.at_ hlt).1)
      have RC := Lib.hid (fun (W : World) (hW : New w W) => show W.cell? (ad.add k) = some (.slice (D.getD k (none, 0, [])).1 (D.getD k (none, 0, [])).2.2.length (D.getD k (none, 0, [])).2.1) by
        obtain ⟨ad2, e2, _, h2⟩ := (HR.out.later hW).at_ hlt
        obtain rfl := Option.some.inj e2
        exact h2)
      have e1 := bytesOf_at D k
      have US := upL_snoc s (bytesOf D) (k := k) (by rw [HB.out]; exact hlt)
      have h4 := tsum_take (L := bytesOf D) (k := k) (by rw [HB.out]; exact hlt)
      have h6 := tsum_take_le (bytesOf D) (k + 1)
      rw [e1] at h4 US
      generalize D.getD k (none, 0, []) = d at *
      have hp : d.2.2.length ≤ 1099511627776 := by have := HT.out; omega
      have hq : q ≤ 1099511640000 := by have := HT.out; have := HQ.out; omega
      have HQ2 := Lib.hid (show q + 8 + d.2.2.length = 2 + s.length + 8 * (k + 1) + tsum ((bytesOf D).take (k + 1)) by rw [h4, HQ.out]; omega)
      have HUS := Lib.hid US
      have LG := Lib.hid (long_any (w := wr) d.2.2.length (by omega))
      have o := O.out
      have b0 := b.out
      clear e1 US h4 h6 HQ O
      go_wp2_with (first
        | (go_at_call 24; refine LG.out.mono ?_; rintro e w5 ⟨A5, n5, c5, rfl, k5, b5⟩
           have b05 := New.trans b0 b5
           have o5 := o.later b5
           have r5 := k5.reads
           obtain rfl : n5 = 8 := by have := k5.len; rw [nums_length, low_len] at this; exact this
           have o5 := o5
           have r5 := r5
           have z5 := b05.size
           clear o b0 hc hb)
        | (refine wpList_pushesN elB rfl (.tmp 40) (.tmp 46) rfl (W := w) (B := w.heap.size) (base := w.heap.size) o5 r5 rfl rfl b05 (Nat.le_refl _) z5 (by omega) (by simp only [maxLen]; omega) ?_
           intro A6 c6 w6 _ _ o6 _ b6 _
           have hc6 := RC.out _ b6
           have r6 := RD.out _ b6
           have z6 := b6.size
           clear o5 r5 b05 z5 k5 b5)
        | (refine wpList_pushesN elB rfl (.tmp 48) (.tmp 52) rfl (W := w) (B := w.heap.size) (base := w.heap.size) o6 r6 rfl rfl b6 (Nat.le_refl _) z6 (by omega) (by simp only [maxLen]; omega) ?_
           intro A7 c7 w7 _ _ o7 _ b7 _
           clear o6 r6 z6 hc6 b6))
      have O7 := Lib.hid (show Own w7 w.heap.size 5 (.slice A7 (q + 8 + d.2.2.length) c7) (nums .u8 (upL s (bytesOf D) (k + 1))) by rw [HUS.out, partL, ← List.append_assoc]; exact o7)
      have B7 := Lib.hid b7
      clear o7 b7
      go_roundw
      case rel => exact ⟨k + 1, q + 8 + d.2.2.length, c7, A7, by omega, by go_num, rfl, HQ2, O7, B7⟩
      case measure => simp [intOf]; omega
    · obtain rfl : k = D.length := by omega
      have o := O.out
      rw [← HB.out, upL_all] at o
      have O5 := Lib.hid o
      clear o O
      go_wp2
      go_ret2
      exact ⟨_, _, _, rfl, O5.out, b.out⟩

end Go.Proofs.YtlfnhbnaegihfaaDoor
/- Contract on hypostyleref02.Same. -/

namespace Go.Hm
open Go Go.RowKit
theorem take_eq_snoc {α : Type} {l m : List α} {k : Nat} (d : α) (h1 : k < l.length) (h2 : k < m.length) : l.take (k + 1) = m.take (k + 1) ↔ l.take k = m.take k ∧ l.getD k d = m.getD k d := by
  rw [take_snoc _ k d h1, take_snoc _ k d h2]
  constructor
  · intro h
    have := List.append_inj' h rfl
    exact ⟨this.1, by simpa using this.2⟩
  · rintro ⟨h, k⟩
    rw [h, k]
/-- A cell of rows, in each later world. -/
theorem RowsAt.cells {w : World} {ad : Addr} {n c : Nat} {D : List PartS} (h : RowsAt w (some ad) n c D) {k : Nat} (hk : k < D.length) (W : World) (hW : New w W) : W.cell? (ad.add k) = some (.slice (D.getD k (none, 0, [])).1 (D.getD k (none, 0, [])).2.2.length (D.getD k (none, 0, [])).2.1) := by
  obtain ⟨ad2, e2, _, h2⟩ := (h.later hW).at_ hk
  obtain rfl := Option.some.inj e2
  exact h2

end Go.Hm

namespace Go.Proofs.YtlfnhbnaegihfaaDoor
open Go.RowKit Go.Hm
set_option maxHeartbeats 1000000 in
theorem same_any {w : World} {A B : Option Addr} {n m c e : Nat} {D E : List PartS} (h : RowsAt w A n c D) (k : RowsAt w B m e E) (h8 : ∀ p ∈ bytesOf D, ∀ x ∈ p, x < 256) (k8 : ∀ p ∈ bytesOf E, ∀ x ∈ p, x < 256) (hn : n ≤ 9223372036854775806) (hm : m ≤ 9223372036854775806) :
    Calls Tryd.prog 15 #[.slice A n c, .slice B m e] w (NewPost (.bool (decide (bytesOf D = bytesOf E))) w) := by
  obtain rfl := h.len
  obtain rfl := k.len
  have HD := Lib.hid h
  have HE := Lib.hid k
  have H8 := Lib.hid h8
  have K8 := Lib.hid k8
  have LD := Lib.hid (bytesOf_len D)
  have LE := Lib.hid (bytesOf_len E)
  clear h k h8 k8
  by_cases hl : D.length = E.length
  · have d1 : ((D.length : Int) == (E.length : Int)) = true := by rw [beq_iff_eq]; omega
    have HL := Lib.hid hl
    have e1 : (D.length : Int) = (E.length : Int) := by omega
    clear hl
    go_enter Tryd.func15, Tryd.ntmps15
    go_wp2
    go_loopw [5] (fun i wr => ∃ k : Nat, k ≤ D.length ∧ i = .int .i64 (k : Int) ∧ Hid ((bytesOf D).take k = (bytesOf E).take k) ∧ Hid (New w wr)) (fun i _ => D.length - (intOf i).toNat)
    case atStart => exact ⟨0, by omega, rfl, Lib.hid (by simp), Lib.hid (Below.refl _ _)⟩
    case round =>
      obtain ⟨k, hk, rfl, T, b⟩ := hrel
      by_cases hlt : k < D.length
      · have k1 := hlt
        have k2 : k < E.length := by have := HL.out; omega
        obtain ⟨ad, rfl, _⟩ := HD.out.at_ k1
        obtain ⟨ae, rfl, _⟩ := HE.out.at_ k2
        have C1 := Lib.hid (fun (W : World) (hW : New w W) => HD.out.cells k1 W hW)
        have C2 := Lib.hid (fun (W : World) (hW : New w W) => HE.out.cells k2 W hW)
        have R1 := ((HD.out.later b.out).parts.at_ k1).1
        have R2 := ((HE.out.later b.out).parts.at_ k2).1
        have e1 := bytesOf_at D k
        have e2 := bytesOf_at E k
        have g1 := H8.out _ (mem_getD (L := bytesOf D) (k := k) (by rw [LD.out]; exact hlt))
        have g2 := K8.out _ (mem_getD (L := bytesOf E) (k := k) (by rw [LE.out]; exact k2))
        have TS := take_eq_snoc (l := bytesOf D) (m := bytesOf E) (k := k) [] (by rw [LD.out]; exact hlt) (by rw [LE.out]; exact k2)
        rw [e1, e2] at TS
        rw [e1] at g1
        rw [e2] at g2
        have BB := bstr_beq g1 g2
        generalize D.getD k (none, 0, []) = d at *
        generalize E.getD k (none, 0, []) = x at *
        have HT := Lib.hid TS
        have HB := Lib.hid BB
        have R1 := Lib.hid R1
        have R2 := Lib.hid R2
        clear e1 e2 g1 g2 TS BB
        go_wp2
        refine wp_region_up New [(true, 0), (true, 1), (true, 2), (true, 3), (true, 4), (true, 5), (true, 6), (true, 7), (true, 8), (true, 9), (true, 10)]
          New.refl New.trans (by kernel_rfl) (by kernel_rfl) (by kernel_rfl) (by kernel_rfl) ?_
        have hU := New.drew wr
        have bU := New.trans b.out hU
        iterate 4 (
          refine up_quiet rfl rfl (v := ?_) (fun W hW => ?_) ?_
          rotate_left
          · have c1 := C1.out W (New.trans bU hW)
            go_simp <;> with_reducible rfl
          simp only [Act.put, List.setIfInBounds_toArray, List.set_cons_zero, List.set_cons_succ])
        refine up_str (e := 5) (by kernel_rfl) (by kernel_rfl) (by kernel_rfl) rfl rfl rfl R1.out hU ?_
        simp only [Act.put, List.setIfInBounds_toArray, List.set_cons_zero, List.set_cons_succ]
        iterate 4 (
          refine up_quiet rfl rfl (v := ?_) (fun W hW => ?_) ?_
          rotate_left
          · have c2 := C2.out W (New.trans bU hW)
            go_simp <;> with_reducible rfl
          simp only [Act.put, List.setIfInBounds_toArray, List.set_cons_zero, List.set_cons_succ])
        refine up_str (e := 5) (by kernel_rfl) (by kernel_rfl) (by kernel_rfl) rfl rfl rfl R2.out hU ?_
        simp only [Act.put, List.setIfInBounds_toArray, List.set_cons_zero, List.set_cons_succ]
        refine up_quiet rfl rfl (v := ?_) (fun W hW => ?_) ?_
        rotate_left
        · skip
          go_simp <;> with_reducible rfl
        simp only [Act.put, List.setIfInBounds_toArray, List.set_cons_zero, List.set_cons_succ]
        refine up_nil ?_
        have B3 := Lib.hid bU
        generalize hbb : (!((bstr d.2.2).toList == (bstr x.2.2).toList)) = tb
        by_cases hq : d.2.2 = x.2.2
        · have T3 := Lib.hid (HT.out.2 ⟨T.out, hq⟩)
          obtain rfl : tb = false := by rw [← hbb, HB.out, decide_eq_true hq]; rfl
          clear hbb
          clear T hq
          go_wp2
          go_roundw
          case rel => exact ⟨k + 1, by omega, by go_num, T3, B3⟩
          case measure => simp [intOf]; omega
        · have HN : Hid (decide (bytesOf D = bytesOf E) = false) := Lib.hid (decide_eq_false fun he => hq (HT.out.1 (by rw [he])).2)
          obtain rfl : tb = true := by rw [← hbb, HB.out, decide_eq_false hq]; rfl
          clear hbb
          clear T hq
          go_wp2
          go_ret
          exact ⟨by simp [HN.out], B3.out⟩
      · obtain rfl : k = D.length := by omega
        have t := T.out
        rw [List.take_of_length_le (by rw [LD.out]; omega), List.take_of_length_le (by rw [LE.out]; have := HL.out; omega)] at t
        have HN : Hid (decide (bytesOf D = bytesOf E) = true) := Lib.hid (decide_eq_true t)
        clear t T
        go_wp2
        go_ret
        exact ⟨by simp [HN.out], b.out⟩
  · have d1 : ((D.length : Int) == (E.length : Int)) = false := by rw [beq_eq_false_iff_ne]; omega
    have HN : Hid (decide (bytesOf D = bytesOf E) = false) := Lib.hid (decide_eq_false fun he => hl (by rw [← LD.out, ← LE.out, he]))
    have d2 : ¬ (D.length : Int) = (E.length : Int) := by omega
    go_enter Tryd.func15, Tryd.ntmps15
    go_wp2
    go_ret
    exact ⟨by simp [HN.out], Below.refl _ _⟩

end Go.Proofs.YtlfnhbnaegihfaaDoor
/- Contracts on tag.first, tag.Parse. -/

namespace Go.Hm
open Go Go.RowKit
theorem slice_lk {P : Program} {t : TypeId} (ht : P.underlying t = some (.slice (P.elem t))) (hs : ∀ w, (sizeOf (P.elem t)).run P w = .ok 1 w) (A : Option Addr) (n c k : Nat) (q : IntKind) (hk : k ≤ n) (w : World) :
    (Instr.sliceAt t (.slice A n c) (some (.int q (k : Int))) none none).run P w = .ok (.slice (if c = k then A else A.map (·.add k)) (n - k) (c - k)) w := by
  rw [run_sliceAt_slice w t _ _ _ _ ht, run_slice_l w t A n c ht q (k : Int) (by omega) (by omega), hs]
  simp [Result.andThen, sliced]
theorem slice_lhk {P : Program} {t : TypeId} (ht : P.underlying t = some (.slice (P.elem t))) (hs : ∀ w, (sizeOf (P.elem t)).run P w = .ok 1 w) (A : Option Addr) (n c k m : Nat) (q r : IntKind) (hk : k ≤ m) (hc : m ≤ c) (w : World) :
    (Instr.sliceAt t (.slice A n c) (some (.int q (k : Int))) (some (.int r (m : Int))) none).run P w = .ok (.slice (if c = k then A else A.map (·.add k)) (m - k) (c - k)) w := by
  rw [run_sliceAt_slice w t _ _ _ _ ht, run_slice_lh w t A n c ht q r (k : Int) (m : Int) (by omega) (by omega) (by omega), hs]
  simp [Result.andThen, sliced]

end Go.Hm

namespace Go.Proofs.YtlfnhbnaegihfaaDoor
open Go.RowKit Go.Hm
set_option maxHeartbeats 400000 in
theorem bclone_any {w : World} {A : Option Addr} {n c : Nat} {l : List Nat} (h : Reads w w.heap.size 1 A n (nums .u8 l)) (hl : n ≤ 140737488355328) :
    Calls Tryd.prog 27 #[.slice A n c] w (BytesPost l w) := by
  obtain rfl := h.len
  rcases A with _ | ad
  · have hl0 : l.length = 0 := by
      rcases Nat.eq_zero_or_pos l.length with h0 | h0
      · exact h0
      · obtain ⟨ad, h', _⟩ := h.2 h0
        cases h'
    obtain rfl : l = [] := List.eq_nil_of_length_eq_zero hl0
    have hq := fun W : World => Lib.run_eql_slice_nil (P := Tryd.prog) W 23 5 none 0 c 0 0 elB.ht
    go_enter Tryd.func27, Tryd.ntmps27
    go_wp2
    go_ret
    exact ⟨none, 0, 0, rfl, Own.nil_, Below.refl _ _⟩
  · have hq := fun W : World => Lib.run_eql_slice_nil (P := Tryd.prog) W 23 5 (some ad) l.length c 0 0 elB.ht
    go_enter Tryd.func27, Tryd.ntmps27
    go_wp2_with (first
      | (refine wpList_pushesN elB rfl (.tmp 5) (.tmp 6) rfl (W := w) (B := w.heap.size) (k := .u8) (l := []) (l2 := l) (c2 := c) (Own.empty _ _) ((h.alloc (Nat.le_refl _) _).more (by simp)) rfl rfl ((Below.refl _ _).alloc (Nat.le_refl _) _) (Nat.le_refl _) (by simp) (by omega) (by simp only [maxLen]; omega) ?_
         simp only [Nat.zero_add, List.nil_append]
         intro A' c' w' k1 k2 k3 k4 k5 k6))
    go_ret
    exact ⟨A', _, c', rfl, k3, k5⟩

/-- The first part, a copy, and what is behind it. -/
def FirstPost (l : List Nat) (A : Option Addr) (c : Nat) (w : World) (e : Ending) (w' : World) : Prop :=
  match firstO l with
  | none => e = .returned (.tuple #[.slice none 0 0, .slice none 0 0, .bool false]) ∧ New w w'
  | some (p, r) => ∃ A5 c5, e = .returned (.tuple #[.slice A5 p.length c5, .slice (if c = 8 + p.length then A else A.map (·.add (8 + p.length))) r.length (c - (8 + p.length)), .bool true]) ∧ Own w' w.heap.size 5 (.slice A5 p.length c5) (nums .u8 p) ∧ r = l.drop (8 + p.length) ∧ 8 + p.length ≤ l.length ∧ New w w'
set_option maxHeartbeats 2000000 in
set_option maxRecDepth 100000 in
theorem first_part_any {w : World} {A : Option Addr} {n c : Nat} {l : List Nat} (h : Reads w w.heap.size 1 A n (nums .u8 l)) (h8 : ∀ x ∈ l, x < 256) (hc : n ≤ c) (hm : n ≤ 140737488355328) :
    Calls Tryd.prog 25 #[.slice A n c] w (FirstPost l A c w) := by
  obtain rfl := h.len
  have HR := Lib.hid h
  have H8 := Lib.hid h8
  by_cases h1 : l.length < 8
  · have hO : firstO l = none := by unfold firstO; exact if_neg (by omega)
    have HO := Lib.hid hO
    have d0 : decide ((l.length : Int) < 8) = true := decide_eq_true (by omega)
    clear h h8 hO
    go_enter Tryd.func25, Tryd.ntmps25
    go_wp2
    go_ret3
    unfold FirstPost
    rw [HO.out]
    exact ⟨rfl, Below.refl _ _⟩
  have d0 : decide ((l.length : Int) < 8) = false := decide_eq_false (by omega)
  have hl8 : 8 ≤ l.length := by omega
  clear h h8 h1
  go_enter Tryd.func25, Tryd.ntmps25
  go_wp2
  go_loop [5, 10] (fun v i => ∃ k : Nat, k ≤ 8 ∧ i = .int .i64 (k : Int) ∧ v = .int .u64 (num (l.take k) : Int)) (fun _ i => 8 - (intOf i).toNat)
  case atStart => exact ⟨0, by omega, rfl, by simp [num]⟩
  case round =>
    obtain ⟨k, hk, rfl, rfl⟩ := hrel
    by_cases hlt : k < 8
    · obtain ⟨ad, rfl, hb, hcell⟩ := HR.out.num (i := k) (by omega)
      have T8 : (l.take 8).length = 8 := by rw [List.length_take]; omega
      have S := num_step_u64 (l.take 8) k (by omega) (by omega) (fun x hx => H8.out x (List.mem_of_mem_take hx))
      have hg : (l.take 8).getD k 0 = l.getD k 0 := by
        rw [List.getD_eq_getElem?_getD, List.getElem?_take, if_pos hlt, ← List.getD_eq_getElem?_getD]
      rw [hg, List.take_take, List.take_take, Nat.min_eq_left (by omega), Nat.min_eq_left (by omega)] at S
      have S := Lib.hid S
      have j1 : (8 : Int) * (k : Int) < 64 := by omega
      clear T8 hg
      generalize l.getD k 0 = x at *
      go_wp2
      go_round
      case rel => exact ⟨k + 1, by omega, by go_num, rfl⟩
      case measure => simp [intOf]; omega
    · obtain rfl : k = 8 := by omega
      have hn := num_lt (l.take 8) (fun x hx => H8.out x (List.mem_of_mem_take hx))
      rw [List.length_take, Nat.min_eq_left hl8] at hn
      have HO2 : firstO l = firstO l := rfl
      conv at HO2 => rhs; unfold firstO
      generalize num (l.take 8) = N at *
      have e1 : (l.length : Int) - 8 = ((l.length - 8 : Nat) : Int) := by omega
      have hu : IntKind.u64.wrap ((l.length - 8 : Nat) : Int) = ((l.length - 8 : Nat) : Int) := by rw [IntKind.wrap_u64]; omega
      obtain ⟨L8, hL8⟩ : ∃ x, x = l.length - 8 := ⟨_, rfl⟩
      rw [← hL8] at e1 hu HO2
      by_cases h2 : L8 < N
      · have d1 : decide ((L8 : Int) < (N : Int)) = true := decide_eq_true (by omega)
        rw [if_neg (by omega)] at HO2
        have HO3 := Lib.hid HO2
        clear HO2
        go_wp2
        go_ret3
        unfold FirstPost
        rw [HO3.out]
        exact ⟨rfl, Below.refl _ _⟩
      · have d1 : decide ((L8 : Int) < (N : Int)) = false := decide_eq_false (by omega)
        rw [if_pos (by omega)] at HO2
        have HO3 := Lib.hid HO2
        obtain ⟨E8, hE⟩ : ∃ x, x = 8 + N := ⟨_, rfl⟩
        have a1 : IntKind.u64.wrap (8 + (N : Int)) = (E8 : Int) := by rw [IntKind.wrap_u64]; omega
        have a2 : (8 + (N : Int)) % 18446744073709551616 = (E8 : Int) := by omega
        have hEl : E8 ≤ l.length := by omega
        have SL1 := slice_lhk (P := Tryd.prog) sB zB A l.length c 8 E8 .i64 .u64 (by omega) (by omega)
        have SL2 := slice_lk (P := Tryd.prog) sB zB A l.length c E8 .u64 hEl
        rw [show E8 - 8 = N by omega] at SL1
        have r1 := (HR.out.cut (k := 8) (cap := c) hl8 hc).take (k := N) (by omega)
        have r2 := HR.out.cut (k := E8) (cap := c) hEl hc
        rw [Nat.mul_one, Nat.mul_one, nums_drop, nums_take] at r1
        rw [Nat.mul_one, nums_drop] at r2
        rw [show 8 + N = E8 from hE.symm] at HO3
        generalize (if c = 8 then A else A.map (·.add 8)) = A1 at *
        generalize hA2 : (if c = E8 then A else A.map (·.add E8)) = A2 at *
        have HA2 := Lib.hid hA2
        have HE := Lib.hid hE
        have SL1 := Lib.hid SL1
        have SL2 := Lib.hid SL2
        have hNl : ((l.drop 8).take N).length = N := by rw [List.length_take, List.length_drop]; omega
        have CLN := Lib.hid (fun (W : World) (hW : New w W) => bclone_any (c := c - 8) (Reads.later r1 hW) (by omega))
        have HNL := Lib.hid hNl
        clear hE r1 r2 hNl HO2 hL8 hA2
        go_wp2
        refine wp_region_up New [(true, 0), (true, 1), (true, 2), (true, 3), (true, 5), (true, 6), (true, 7), (true, 8), (false, 4), (true, 9), (true, 10), (true, 11)]
          New.refl New.trans (by kernel_rfl) (by kernel_rfl) (by kernel_rfl) (by kernel_rfl) ?_
        have hU := New.drew w
        iterate 3 (
          refine up_quiet rfl rfl (v := ?_) (fun W hW => ?_) ?_
          rotate_left
          · skip
            go_simp <;> with_reducible rfl
          simp only [Act.put, List.setIfInBounds_toArray, List.set_cons_zero, List.set_cons_succ])
        refine up_quiet rfl rfl (v := .slice A1 N (c - 8)) (fun W hW => exec_slice (SL1.out W)) ?_
        simp only [Act.put, List.setIfInBounds_toArray, List.set_cons_zero, List.set_cons_succ]
        iterate 3 (
          refine up_quiet rfl rfl (v := ?_) (fun W hW => ?_) ?_
          rotate_left
          · skip
            go_simp <;> with_reducible rfl
          simp only [Act.put, List.setIfInBounds_toArray, List.set_cons_zero, List.set_cons_succ])
        refine up_quiet rfl rfl (v := .slice A2 (l.length - E8) (c - E8)) (fun W hW => exec_slice (SL2.out W)) ?_
        simp only [Act.put, List.setIfInBounds_toArray, List.set_cons_zero, List.set_cons_succ]
        refine up_call rfl rfl (fun K hK => ?_)
        go_simp
        (with_reducible refine (CLN.out _ hU).mono ?_)
        rintro e u ⟨A5, n5, c5, rfl, o5, b5⟩
        refine hK _ _ b5 ?_
        clear hK
        replace hU := New.trans hU b5
        iterate 3 (
          refine up_quiet rfl rfl (v := ?_) (fun W hW => ?_) ?_
          rotate_left
          · skip
            go_simp <;> with_reducible rfl
          simp only [Act.put, List.setIfInBounds_toArray, List.set_cons_zero, List.set_cons_succ])
        refine up_nil ?_
        have O5 := Lib.hid o5
        have HU := Lib.hid hU
        clear o5 hU b5
        go_wp2
        go_ret3
        unfold FirstPost
        rw [HO3.out]
        have o5 := O5.out
        obtain rfl : n5 = ((l.drop 8).take N).length := by have := o5.len; rwa [nums_length] at this
        have hE2 : 8 + ((l.drop 8).take N).length = E8 := by rw [HNL.out]; exact HE.out.symm
        refine ⟨A5, c5, ?_, o5, by rw [hE2], by omega, HU.out⟩
        show _ = Ending.returned (.tuple #[_, .slice (if c = 8 + ((l.drop 8).take N).length then A else A.map (·.add (8 + ((l.drop 8).take N).length))) _ _, _])
        rw [hE2, HA2.out, List.length_drop]
        simp

end Go.Proofs.YtlfnhbnaegihfaaDoor
/- Contract on tag.Parse. -/

namespace Go.Hm
open Go Go.RowKit
theorem TR.push {w w' : World} {e t : TypeId} {A : Option Addr} {n base : Nat} {xs ys : List Value} {v : Value} (h : TR w e A n xs) (o : Own w base t v ys) (hg : w.grownBy w' v.ownBlock) (hne : e ≠ t) : TR w' e A n xs := by
  rcases o.2 with ⟨rfl, _⟩ | ⟨g, cap, cur, rfl, _, hh, _⟩
  · exact h.grown hg (fun ad g _ hr => by cases hr)
  · exact h.keep (g := g) hg hh hne
/-- Rows of bytes in blocks of bytes. -/
def PartsT (e : TypeId) (w : World) (D : List PartS) : Prop := ∀ d ∈ D, TR w e d.1 d.2.2.length (nums .u8 d.2.2) ∧ d.2.2.length ≤ d.2.1 ∧ d.2.1 ≤ 9223372036854775807
theorem PartsT.ins {e : TypeId} {w : World} {D : List PartS} (h : PartsT e w D) : PartsIn w D := fun d hd => ⟨(h d hd).1.1, (h d hd).2⟩
theorem PartsT.below {e : TypeId} {w w' : World} {D : List PartS} (h : PartsT e w D) (hb : New w w') : PartsT e w' D := fun d hd => ⟨(h d hd).1.below hb, (h d hd).2⟩
theorem PartsT.push {e t : TypeId} {w w' : World} {D : List PartS} {base : Nat} {v : Value} {ys : List Value} (h : PartsT e w D) (o : Own w base t v ys) (hg : w.grownBy w' v.ownBlock) (hne : e ≠ t) : PartsT e w' D := fun d hd => ⟨(h d hd).1.push o hg hne, (h d hd).2⟩
theorem PartsT.snoc {e : TypeId} {w : World} {D : List PartS} {d : PartS} (h : PartsT e w D) (k : TR w e d.1 d.2.2.length (nums .u8 d.2.2)) (h1 : d.2.2.length ≤ d.2.1) (h2 : d.2.1 ≤ 9223372036854775807) : PartsT e w (D ++ [d]) := by
  intro x hx
  rcases List.mem_append.1 hx with hx | hx
  · exact h x hx
  · obtain rfl := List.mem_singleton.1 hx
    exact ⟨k, h1, h2⟩
theorem bytesOf_snoc (D : List PartS) (d : PartS) : bytesOf (D ++ [d]) = bytesOf D ++ [d.2.2] := by simp [bytesOf]
theorem recsP_len (D : List PartS) : (recs partV D).length = D.length := by rw [recs_length (sz := 1) (fun _ => rfl), Nat.mul_one]
theorem recsP_snoc (D : List PartS) (d : PartS) : recs partV (D ++ [d]) = recs partV D ++ [.slice d.1 d.2.2.length d.2.1] := by rw [recs_append]; rfl
theorem parts_step {N k : Nat} (hk : k < N) (R : List Nat) : partsO (N - k) R = (firstO R).bind fun p => (partsO (N - (k + 1)) p.2).map fun q => (p.1 :: q.1, q.2) := by
  rw [show N - k = (N - (k + 1)) + 1 by omega, partsO]

end Go.Hm

namespace Go.Proofs.YtlfnhbnaegihfaaDoor
open Go.RowKit Go.Hm
theorem elR : ElT Tryd.prog 22 23 (.slice none 0 0) 1 24 := ⟨by kernel_rfl, by kernel_rfl, rfl, by omega⟩
/-- A tag and parts, or none. -/
def ParsePost (o : Option (List Nat × List (List Nat))) (w : World) (e : Ending) (w' : World) : Prop :=
  ∃ A n c D, e = .returned (.tuple #[.string (bstr ((o.map Prod.fst).getD [])), .slice A n c, .bool o.isSome]) ∧ RowsAt w' A n c D ∧ bytesOf D = (o.map Prod.snd).getD [] ∧ New w w'
theorem ParsePost.none_ {w w' : World} (h : New w w') : ParsePost none w (.returned (.tuple #[.string (bstr []), .slice none 0 0, .bool false])) w' :=
  ⟨none, 0, 0, [], rfl, ⟨⟨by simp [recs], fun h => absurd h (by omega)⟩, (fun d hd => nomatch hd), Nat.le_refl _⟩, rfl, h⟩
set_option maxHeartbeats 2000000 in
set_option maxRecDepth 100000 in
theorem parse_any {w : World} {A : Option Addr} {n c : Nat} {l : List Nat} (h : Reads w w.heap.size 1 A n (nums .u8 l)) (h8 : ∀ x ∈ l, x < 256) (hc : n ≤ c) (hm : n ≤ 140737488355328) :
    Calls Tryd.prog 13 #[.slice A n c] w (ParsePost (parseO l) w) := by
  obtain rfl := h.len
  have HR := Lib.hid h
  have H8 := Lib.hid h8
  by_cases h0 : l.length = 0
  · obtain rfl := List.eq_nil_of_length_eq_zero h0
    clear h h8
    go_enter Tryd.func13, Tryd.ntmps13
    go_wp2
    go_ret3
    exact ParsePost.none_ (Below.refl _ _)
  have d0 : ((l.length : Int) == 0) = false := by rw [beq_eq_false_iff_ne]; omega
  obtain ⟨ad, rfl, hb, hcell⟩ := HR.out.num (i := 0) (by omega)
  have hcell0 : w.cell? ad = some (.int .u8 ((l.getD 0 0 : Nat) : Int)) := by rw [add_zero'] at hcell; exact hcell
  have hx8 : l.getD 0 0 < 256 := getD_lt l 0 h8
  obtain ⟨o, ho⟩ : ∃ o, o = parseO l := ⟨_, rfl⟩
  have HO : parseO l = parseO l := rfl
  conv at HO => rhs; unfold parseO
  rw [← ho] at HO ⊢
  generalize hx : l.getD 0 0 = x at *
  have HX := Lib.hid hx
  clear hcell hx ho h h8
  by_cases h1 : x = 0
  · subst h1
    rw [if_neg (by omega)] at HO
    replace HO := Lib.hid HO
    go_enter Tryd.func13, Tryd.ntmps13
    go_wp2
    go_ret3
    rw [HO.out]
    exact ParsePost.none_ (Below.refl _ _)
  have d1 : ((x : Int) == 0) = false := by rw [beq_eq_false_iff_ne]; omega
  by_cases h2 : l.length < 2 + x
  · rw [if_neg (by omega)] at HO
    replace HO := Lib.hid HO
    have d2 : decide ((l.length : Int) < 2 + (x : Int)) = true := decide_eq_true (by omega)
    go_enter Tryd.func13, Tryd.ntmps13
    go_wp2
    go_ret3
    rw [HO.out]
    exact ParsePost.none_ (Below.refl _ _)
  have d2 : decide ((l.length : Int) < 2 + (x : Int)) = false := decide_eq_false (by omega)
  rw [if_pos (by omega)] at HO
  replace HO := Lib.hid HO
  have hB1 : 1 + x < l.length := by omega
  have CB : ∀ W : World, New w W → W.cell? (ad.add (1 + x)) = some (.int .u8 ((l.getD (1 + x) 0 : Nat) : Int)) := fun W hW => by
    obtain ⟨_, e1, _, hcB⟩ := (Reads.later HR.out hW).num (i := 1 + x) hB1
    obtain rfl := Option.some.inj e1
    exact hcB
  have hcB := CB w (Below.refl _ _)
  have hN8 : l.getD (1 + x) 0 < 256 := getD_lt l _ H8.out
  obtain ⟨B1, hB⟩ : ∃ y, y = 1 + x := ⟨_, rfl⟩
  rw [← hB] at HO hcB hB1 hN8 CB
  generalize l.getD B1 0 = N at *
  obtain ⟨B2, hB2⟩ : ∃ y, y = 2 + x := ⟨_, rfl⟩
  rw [← hB2] at HO
  have i1 : (1 : Int) + (x : Int) = (B1 : Int) := by omega
  have a3 : IntKind.i64.wrap ((B1 : Int) + 1) = (B2 : Int) := by rw [IntKind.wrap_i64]; omega
  have a4 : (B1 : Int) + 1 = (B2 : Int) := by omega
  have a5 : IntKind.i64.wrap (B2 : Int) = (B2 : Int) := by rw [IntKind.wrap_i64]; omega
  have a6 : IntKind.i64.wrap (N : Int) = (N : Int) := by rw [IntKind.wrap_i64]; omega
  have hB2l : B2 ≤ l.length := by omega
  have j1 : (B1 : Int) < (l.length : Int) := by omega
  have SL1 := slice_lh (P := Tryd.prog) sB zB (some ad) l.length c 1 B1 (by omega) (by omega)
  have SL2 := slice_l (P := Tryd.prog) sB zB (some ad) l.length c B2 hB2l
  rw [show B1 - 1 = x by omega] at SL1
  have r1 := (HR.out.cut (k := 1) (cap := c) (by omega) hc).take (k := x) (by omega)
  have r2 := HR.out.cut (k := B2) (cap := c) hB2l hc
  rw [Nat.mul_one, Nat.mul_one, nums_drop, nums_take] at r1
  rw [Nat.mul_one, nums_drop] at r2
  generalize (if c = 1 then some ad else (some ad).map (·.add 1)) = A1 at *
  generalize (if c = B2 then some ad else (some ad).map (·.add B2)) = A2 at *
  have CB := Lib.hid CB
  have hR8 : ∀ x ∈ l.drop B2, x < 256 := fun x hx => H8.out x (List.mem_of_mem_drop hx)
  have hRl : l.length - B2 = (l.drop B2).length := by rw [List.length_drop]
  rw [hRl] at r2 SL2
  have hc2 : (l.drop B2).length ≤ c - B2 := by rw [← hRl]; omega
  have HL2 := Lib.hid (show (l.drop B2).length ≤ 140737488355328 by rw [← hRl]; omega)
  generalize l.drop B2 = R at *
  generalize (l.drop 1).take x = s at *
  have SL1 := Lib.hid SL1
  have SL2 := Lib.hid SL2
  have R1 := Lib.hid r1
  have R2 := Lib.hid r2
  have HR8 := Lib.hid hR8
  have HC2 := Lib.hid hc2
  have HN8 := Lib.hid hN8
  clear hRl r1 r2 hR8 hB2 hB hc2 hN8
  go_enter Tryd.func13, Tryd.ntmps13
  go_wp2
  refine wp_region_up New [(true, 0), (true, 1), (true, 2), (true, 3), (true, 4), (true, 5), (true, 6), (true, 7), (true, 8), (true, 9), (true, 10), (true, 11), (true, 12), (true, 13), (true, 14), (true, 15)]
    New.refl New.trans (by kernel_rfl) (by kernel_rfl) (by kernel_rfl) (by kernel_rfl) ?_
  have hU := New.drew w
  iterate 2 (
    refine up_quiet rfl rfl (v := ?_) (fun W hW => ?_) ?_
    rotate_left
    · skip
      go_simp <;> with_reducible rfl
    simp only [Act.put, List.setIfInBounds_toArray, List.set_cons_zero, List.set_cons_succ])
  refine up_quiet rfl rfl (v := .slice A1 x (c - 1)) (fun W hW => exec_slice (SL1.out W)) ?_
  simp only [Act.put, List.setIfInBounds_toArray, List.set_cons_zero, List.set_cons_succ]
  refine up_str (e := 5) (by kernel_rfl) (by kernel_rfl) (by kernel_rfl) rfl rfl rfl R1.out hU ?_
  simp only [Act.put, List.setIfInBounds_toArray, List.set_cons_zero, List.set_cons_succ]
  iterate 8 (
    refine up_quiet rfl rfl (v := ?_) (fun W hW => ?_) ?_
    rotate_left
    · have cb := CB.out W (New.trans hU hW)
      go_simp <;> with_reducible rfl
    simp only [Act.put, List.setIfInBounds_toArray, List.set_cons_zero, List.set_cons_succ])
  refine up_quiet rfl rfl (v := .slice A2 R.length (c - B2)) (fun W hW => exec_slice (SL2.out W)) ?_
  simp only [Act.put, List.setIfInBounds_toArray, List.set_cons_zero, List.set_cons_succ]
  iterate 3 (
    refine up_quiet rfl rfl (v := ?_) (fun W hW => ?_) ?_
    rotate_left
    · skip
      go_simp <;> with_reducible rfl
    simp only [Act.put, List.setIfInBounds_toArray, List.set_cons_zero, List.set_cons_succ])
  refine up_nil ?_
  have z0 : w.heap.size ≤ w.drew.heap.size := hU.size
  clear CB SL1 SL2 R1 i1 a3 a4 a5 a6 j1 d0 d1 d2 hcell0 hcB hB2l
  go_wp2_with (refine wpList_mk elR rfl (.const (.int .i64 0)) (.tmp 50) rfl (W := w) (B := w.heap.size) 0 N rfl rfl rfl rfl (by omega) hU (Nat.le_refl _) rfl (by have := HN8.out; omega) (by have := HN8.out; simp only [maxLen]; omega) ?_
               intro w1 o1 g1 b1 s1
               have O1 := Lib.hid (show Own w1 w.heap.size 23 (.slice (some ⟨w.drew.heap.size, 0, none⟩) 0 N) (recs partV []) from o1)
               have B1' := Lib.hid b1
               clear o1 g1 s1 b1)
  clear hU z0
  have HP := Lib.hid (show partsO N R = (partsO (N - 0) R).map fun q => (bytesOf [] ++ q.1, q.2) by simp [bytesOf])
  obtain ⟨R0, hR0⟩ : ∃ R0, R0 = partsO N R := ⟨_, rfl⟩
  rw [← hR0] at HP HO
  have T0 : Hid (PartsT 5 w1 []) := Lib.hid (fun d hd => nomatch hd)
  clear hR0
  go_loopw [8, 9, 53] (fun vr vp i wr => ∃ (k cr c2 : Nat) (Ar A2 : Option Addr) (R : List Nat) (D : List PartS), k ≤ N ∧ i = .int .i64 (k : Int) ∧ vr = .slice Ar R.length cr ∧ vp = .slice A2 k c2 ∧ Hid (D.length = k) ∧ Hid (Own wr w.heap.size 23 (.slice A2 k c2) (recs partV D)) ∧ Hid (PartsT 5 wr D) ∧ Hid (Reads w w.heap.size 1 Ar R.length (nums .u8 R)) ∧ Hid (∀ x ∈ R, x < 256) ∧ R.length ≤ cr ∧ R.length ≤ 140737488355328 ∧ Hid (R0 = (partsO (N - k) R).map fun q => (bytesOf D ++ q.1, q.2)) ∧ Hid (New w wr)) (fun _ _ i _ => N - (intOf i).toNat)
  case atStart => exact ⟨0, c - B2, N, A2, _, R, [], by omega, rfl, rfl, rfl, Lib.hid rfl, O1, T0, R2, HR8, HC2.out, HL2.out, HP, B1'⟩
  case round =>
    clear O1 T0 R2 HR8 HC2 HP B1'
    obtain ⟨k, cr, c2, Ar, A3, R, D, hk, rfl, rfl, rfl, HD, O, T, RR, R8, hcr, hcm, HP, b⟩ := hrel
    by_cases hlt : k < N
    · have FP := Lib.hid (first_part_any (w := wr) (Reads.later RR.out b.out) R8.out hcr hcm)
      have hst := parts_step hlt R
      cases hf : firstO R with
      | none =>
        have HN : Hid (o = none) := Lib.hid (by rw [HO.out, HP.out, hst, hf]; rfl)
        have HF := Lib.hid hf
        clear HP hst O T RR hf
        go_wp2_with (go_at_call 25; refine FP.out.mono ?_; rintro e w5 hfp
                     unfold FirstPost at hfp
                     rw [HF.out] at hfp
                     obtain ⟨rfl, b5⟩ := hfp
                     clear FP)
        go_ret3
        rw [HN.out]
        exact ParsePost.none_ (New.trans b.out b5)
      | some q =>
        obtain ⟨p, r⟩ := q
        have HF := Lib.hid hf
        have HP2 := Lib.hid (show R0 = (partsO (N - (k + 1)) r).map fun q => ((bytesOf D ++ [p]) ++ q.1, q.2) by
          rw [HP.out, hst, hf, Option.bind_some]
          show (Option.map _ (partsO (N - (k + 1)) r)).map _ = _
          generalize partsO (N - (k + 1)) r = z
          cases z <;> simp)
        have hfb := first_back R8.out hf
        have HB := Lib.hid hfb
        have o0 := O.out
        have t0 := T.out
        have rr := RR.out
        have hN9 := HN8.out
        clear HP hst hf hfb O T
        go_wp2_with (first
          | (go_at_call 25; refine FP.out.mono ?_; rintro e w5 hfp
             unfold FirstPost at hfp
             rw [HF.out] at hfp
             obtain ⟨A5, c5, rfl, o5, hr, hl5, b5⟩ := hfp
             have b05 := New.trans b.out b5
             have o6 := o0.later b5
             have z5 := b05.size
             have t5 := t0.below b5
             have u5 := TR.of_own o5
             have cp5 := o5.cap
             have rr2 := rr.cut (k := 8 + p.length) (cap := cr) hl5 hcr
             rw [Nat.mul_one, nums_drop, ← hr, show R.length - (8 + p.length) = r.length by rw [hr, List.length_drop]] at rr2
             have hr2 := Lib.hid hr
             generalize (if cr = 8 + p.length then Ar else Ar.map (·.add (8 + p.length))) = A6 at *
             have RR2 := Lib.hid rr2
             have hcr2 : r.length ≤ cr - (8 + p.length) := by have := HB.out.2.2.2; omega
             clear FP o0 t0 rr rr2 hr)
          | ((refine wpList_push elR rfl (.tmp 63) (.tmp 65) rfl (W := w) (B := w.heap.size) o6 rfl rfl b05 (Nat.le_refl _) z5 rfl (by rw [recsP_len, HD.out]; have := HN8.out; omega) (by rw [recsP_len, HD.out]; have := HN8.out; simp only [maxLen]; omega) ?_)
             intro A7 c7 w7 _ _ o7 g7 b7 _ _
             have t7 := (t5.push o6 g7 (by decide)).snoc (d := (A5, c5, p)) (u5.push o6 g7 (by decide)) cp5.1 (by have := cp5.2; simp only [maxLen] at this; omega)
             have e7 : (recs partV D).length + 1 = k + 1 := by rw [recsP_len, HD.out]
             rw [e7] at o7 ⊢
             have O7 := Lib.hid (show Own w7 w.heap.size 23 (.slice A7 (k + 1) c7) (recs partV (D ++ [(A5, c5, p)])) by rw [recsP_snoc]; exact o7)
             have T7 := Lib.hid t7
             have B7 := Lib.hid b7
             clear o6 o7 t7 e7 t5 u5 g7 b7 b05 z5 o5 b5))
        have HD2 := Lib.hid (show (D ++ [(A5, c5, p)] : List PartS).length = k + 1 by rw [List.length_append, HD.out]; rfl)
        have HP3 := Lib.hid (show R0 = (partsO (N - (k + 1)) r).map fun q => (bytesOf (D ++ [(A5, c5, p)]) ++ q.1, q.2) by rw [bytesOf_snoc]; exact HP2.out)
        have HR8 := Lib.hid HB.out.2.2.1
        go_roundw
        case rel => exact ⟨k + 1, cr - (8 + p.length), c7, A6, A7, r, _, by omega, by go_num, rfl, rfl, HD2, O7, T7, RR2, HR8, hcr2, (by have := HB.out.2.2.2; omega), HP3, B7⟩
        case measure => simp [intOf]; omega
    · obtain rfl : k = N := by omega
      have hp := HP.out
      rw [Nat.sub_self] at hp
      have hp2 : R0 = some (bytesOf D, R) := by rw [hp]; simp [partsO]
      have ho := HO.out
      rw [hp2, Option.bind_some] at ho
      by_cases hR : R = []
      · subst hR
        rw [if_pos rfl] at ho
        have HN := Lib.hid ho
        have row := O.out
        clear hp hp2 ho HP O RR
        go_wp2
        go_ret3
        rw [HN.out]
        exact ⟨A3, k, c2, D, rfl, ⟨row.reads, T.out.ins, row.cap.1⟩, rfl, b.out⟩
      · rw [if_neg hR] at ho
        have HN := Lib.hid ho
        have d3 : decide ((0 : Int) < (R.length : Int)) = true := decide_eq_true (by have := List.length_pos_iff.2 hR; omega)
        have d4 : 0 < R.length := List.length_pos_iff.2 hR
        clear hp hp2 ho HP O RR hR
        go_wp2
        go_ret3
        rw [HN.out]
        exact ParsePost.none_ b.out

end Go.Proofs.YtlfnhbnaegihfaaDoor
/- Maps keyed by digests, of pairs of places: laws for the walk. No program is named here. -/

namespace Go.Hm
open Go Go.RowKit Go.Maps
abbrev DW := DataW Unit
def pairV (p : Int × Int) : Value := .agg #[.int .i64 p.1, .int .i64 p.2]
def pairD (p : Int × Int) : DW := .agg [.lit (.int .i64 p.1), .lit (.int .i64 p.2)]
def pairR : Value → Option (DW × List MemPlace)
  | .agg ⟨[.int .i64 a, .int .i64 b]⟩ => some (pairD (a, b), [])
  | _ => none
theorem pairR_mk (p : Int × Int) : pairR (pairV p) = some (pairD p, []) := rfl
theorem pairR_inv {v : Value} {z : DW × List MemPlace} (h : pairR v = some z) : ∃ p, v = pairV p ∧ z = (pairD p, []) := by
  unfold pairR at h
  split at h
  · rename_i a b
    exact ⟨(a, b), rfl, (Option.some.inj h).symm⟩
  · cases h
theorem pairD_inj {p q : Int × Int} (h : pairD p = pairD q) : p = q := by
  simp only [pairD, DataW.agg.injEq, List.cons.injEq, DataW.lit.injEq, Lit.int.injEq, true_and, and_true] at h
  exact Prod.ext h.1 h.2
/-- A digest as a key. -/
def digV (l : List Int) : Value := .agg (ints .u8 l).toArray
theorem digV_inj {l m : List Int} (h : digV l = digV m) : l = m := by
  simp only [digV, Value.agg.injEq, Array.mk.injEq, ints] at h
  exact (List.map_inj_right (f := Value.int .u8) (by simp)).1 h
def DigOk (l : List Int) : Prop := l.length = 32 ∧ ∀ x ∈ l, 0 ≤ x ∧ x < 256
theorem mapM_some {α β : Type} {f : α → Option β} {g : α → β} {L : List α} (h : ∀ x ∈ L, f x = some (g x)) : L.mapM f = some (L.map g) := by
  induction L with
  | nil => rfl
  | cons x L ih => rw [List.mapM_cons, h x (by simp), ih fun y hy => h y (by simp [hy])]; rfl

section
variable {P : Program} {k e u : TypeId}
theorem key_dig (A : WideMaps.ArrKey P k u 32) (hu : P.underlying u = some (.int .u8)) (hc : P.cellsOf u = 1) (hk : P.cellsOf k = 32) (hsz : ∃ m, P.types.size = m + 1) {l : List Int} (h : DigOk l) : ∃ kl, keyOf P k (digV l) = some kl := by
  have hT := A.keyType hsz
  obtain ⟨m, hm⟩ := hsz
  have hlen : (ints .u8 l).length = 32 := by simp [ints, h.1]
  have hf : (digV l).formed P k = true := by
    simp [digV, Value.formed, A.hu, hk, hlen]
  have hl : P.keyLits (P.types.size + 1) k (digV l).cells.toList = some ((List.range 32).map fun i => [Lit.int .u8 (l.getD i 0)]).flatten := by
    have hcs : (digV l).cells.toList = ints .u8 l := by simp [digV, Value.cells]
    rw [hcs, hm]
    unfold Program.keyLits
    simp only [A.hu, hlen, hk, if_true]
    rw [mapM_some (g := fun i => [Lit.int .u8 (l.getD i 0)])]
    · rfl
    · intro i hi
      have hi := List.mem_range.1 hi
      have hil : i < l.length := by rw [h.1]; exact hi
      rw [hc, Nat.mul_one]
      have h1 : ((ints .u8 l).drop i).take 1 = [.int .u8 (l.getD i 0)] := by
        rw [List.drop_eq_getElem_cons (by omega)]
        simp [ints, List.getD_eq_getElem?_getD, hil]
      have hx := h.2 (l.getD i 0) (by rw [List.getD_eq_getElem?_getD, List.getElem?_eq_getElem hil]; exact List.getElem_mem _)
      rw [h1]
      generalize l.getD i 0 = x at *
      have hw : (Lit.int .u8 x).wf = true := by
        simp [Lit.wf, IntKind.min, IntKind.max, IntKind.signed, IntKind.bits]
        omega
      unfold Program.keyLits
      simp [hu, hw]
  unfold keyOf
  rw [A.hu]
  simp only [hT, hf, hl]
  exact ⟨_, rfl⟩
/-- A map of the call's own reads as a function. -/
def MapF (P : Program) (k : TypeId) (w : World) (b n : Nat) (f : List Int → Option (Int × Int)) : Prop :=
  ∃ D : DW, w.ownsMap P k pairR b n D ∧ IsMap D ∧ ∀ l kl, keyOf P k (digV l) = some kl → ∀ zd, D.atKey kl zd = ((f l).map pairD).getD zd
theorem MapF.made (w : World) : MapF P k (w.alloc (.map #[] 0)) w.heap.size 0 fun _ => none :=
  ⟨.map [], World.ownsMap_made _ _ _ _, isMap_empty, fun _ _ _ _ => rfl⟩
variable {w : World} {b n : Nat} {f : List Int → Option (Int × Int)}
theorem MapF.kept {w' : World} {row : Option Nat} (h : MapF P k w b n f) (hg : w.grownBy w' row) (hne : some b ≠ row) : MapF P k w' b n f := by
  obtain ⟨D, h1, h2, h3⟩ := h
  exact ⟨D, h1.kept hg hne, h2, h3⟩
theorem MapF.lt (h : MapF P k w b n f) : b < w.heap.size := by
  obtain ⟨D, h1, _⟩ := h
  exact h1.lt
theorem MapF.look {t : TypeId} (h : MapF P k w b n f) (K : Keyed P k) (ht : P.underlying t = some (.map k e)) (hz : (zeroValue e).run P w = .ok (pairV (0, 0)) w) {l : List Int} (hkey : ∃ kl, keyOf P k (digV l) = some kl) :
    (Instr.lookup t (.map (some b)) (digV l) true).run P w = .ok (.tuple #[pairV ((f l).getD (0, 0)), .bool (f l).isSome]) w := by
  obtain ⟨D, ⟨es, clock, hb, F, _, rfl⟩, h2, h3⟩ := h
  obtain ⟨kl, hkey⟩ := hkey
  have h4 := h3 l kl hkey
  rcases fit_look true K ht hz hb F hkey with ⟨hrun, _, hat⟩ | ⟨e0, y, _, _, hrun, hRv, hat, _⟩
  · cases hf : f l with
    | none => exact hrun
    | some p =>
      rw [hf] at h4
      have h5 := (hat .nil).symm.trans (h4 .nil)
      cases h5
  · obtain ⟨p, hp, rfl⟩ := pairR_inv hRv
    rw [hp] at hrun
    cases hf : f l with
    | none =>
      rw [hf] at h4
      have h5 := (hat .nil).symm.trans (h4 .nil)
      cases h5
    | some q =>
      rw [hf] at h4
      have h5 : pairD p = pairD q := (hat .nil).symm.trans (h4 .nil)
      rw [pairD_inj h5] at hrun
      exact hrun
theorem MapF.put {t : TypeId} (h : MapF P k w b n f) (K : Keyed P k) (ht : P.underlying t = some (.map k e)) (hn : n < maxLen) {l : List Int} (hkey : ∃ kl, keyOf P k (digV l) = some kl) (p : Int × Int) :
    ∃ w', (Instr.mapUpdate t (.map (some b)) (digV l) (pairV p)).run P w = .ok () w' ∧ MapF P k w' b (n + 1) (fun m => if m = l then some p else f m) ∧ w.grownBy w' (some b) := by
  obtain ⟨D, h1, h2, h3⟩ := h
  obtain ⟨kl, hkey⟩ := hkey
  obtain ⟨w', hrun, ho, hg⟩ := h1.update K ht hn hkey (pairR_mk p)
  refine ⟨w', hrun, ⟨_, ho, h2.put _ _, fun m km hm zd => ?_⟩, hg⟩
  by_cases he : m = l
  · subst he
    rw [hm] at hkey
    obtain rfl := Option.some.inj hkey
    show _ = ((if m = m then some p else f m).map pairD).getD zd
    rw [if_pos rfl, atKey_put_same h2 (K.key hm)]
    rfl
  · show _ = ((if m = l then some p else f m).map pairD).getD zd
    rw [if_neg he, atKey_put_other, h3 m km hm]
    intro hk
    subst hk
    exact he (digV_inj (K.inj hm hkey))
theorem wpList_lookF {ops : Array Oper} {rest : List Oper} {o : Oper} {a : Act} {Q : Exit → Act → World → Prop} (hg : o.guard = none) (m x : Operand) (t : TypeId) (hop : o.op = Op.lookup t m x true)
    (K : Keyed P k) (ht : P.underlying t = some (.map k e)) (hz : (zeroValue e).run P w = .ok (pairV (0, 0)) w) (hown : MapF P k w b n f) {l : List Int} (hkey : ∃ kl, keyOf P k (digV l) = some kl) (hm : a.eval m = .map (some b)) (hx : a.eval x = digV l)
    (h : wpList P ops Q rest (a.put o.dst (.tuple #[pairV ((f l).getD (0, 0)), .bool (f l).isSome])) w) : wpList P ops Q (o :: rest) a w := by
  refine wpList_plain hg fun K' hK' => ?_
  have hrun := hown.look K ht hz hkey
  unfold Oper.wp
  simp [execOp, hop, hm, hx, hrun, Result.andThen]
  exact hK' _ _ h
theorem wpList_putF {ops : Array Oper} {rest : List Oper} {o : Oper} {a : Act} {Q : Exit → Act → World → Prop} (hg : o.guard = none) (m x v : Operand) (t : TypeId) (hop : o.op = Op.mapUpdate t m x v)
    (K : Keyed P k) (ht : P.underlying t = some (.map k e)) (hown : MapF P k w b n f) (hn : n < maxLen) {l : List Int} (hkey : ∃ kl, keyOf P k (digV l) = some kl) (p : Int × Int)
    (hm : a.eval m = .map (some b)) (hx : a.eval x = digV l) (hv : a.eval v = pairV p)
    (h : ∀ w', MapF P k w' b (n + 1) (fun m => if m = l then some p else f m) → w.grownBy w' (some b) → wpList P ops Q rest (a.put o.dst undef) w') : wpList P ops Q (o :: rest) a w := by
  refine wpList_plain hg fun K' hK' => ?_
  obtain ⟨w', hrun, r1, r2⟩ := hown.put K ht hn hkey p
  unfold Oper.wp
  simp [execOp, hop, hm, hx, hv, hrun, Result.andThen]
  exact hK' _ _ (h w' r1 r2)
end

end Go.Hm
/- Contracts on tag.Hash, hypostyleref02.Hash, tag.New. -/

namespace Go.Proofs.YtlfnhbnaegihfaaDoor
open Go.RowKit Go.Hm
theorem sumI_len2 (l : List Nat) : (sumI l).length = 32 := digI_len _
theorem frameO_len {s : List Nat} {L : List (List Nat)} {f : List Nat} (h : frameO s L = some f) (ht : tsum L ≤ 990000) : f.length ≤ 1000000 := by
  unfold frameO at h
  split at h
  · rename_i hc
    obtain rfl := Option.some.inj h
    rw [frameL_len]
    unfold tsum at ht
    omega
  · cases h
set_option maxHeartbeats 1000000 in
set_option maxRecDepth 100000 in
theorem hash_any {w : World} {s : List Nat} {A : Option Addr} {n c : Nat} {D : List PartS} (h : RowsAt w A n c D) (hn : n ≤ 9223372036854775806) (hs8 : ∀ x ∈ s, x < 256) (hs : s.length ≤ 140737488351232) (ht : tsum (bytesOf D) ≤ 990000) (hD8 : ∀ p ∈ bytesOf D, ∀ x ∈ p, x < 256) (hC : ConstIn w) :
    Calls Tryd.prog 16 #[.string (bstr s), .slice A n c] w (NewPost (digV (hashO s (bytesOf D))) w) := by
  have c0 : New w (w.alloc (.cells (ints .u8 zero32).toArray 33)) := (Below.refl _ _).alloc (Nat.le_refl _) _
  have FR := Lib.hid (frame_any (h.later c0) hn hs8 hs (by omega))
  have HC := Lib.hid hC
  have G0 := Lib.hid (Blk.new w 33 (ints .u8 zero32).toArray)
  have HO : hashO s (bytesOf D) = hashO s (bytesOf D) := rfl
  conv at HO => rhs; unfold hashO
  replace HO := Lib.hid HO
  have HF8 := Lib.hid (fun f (hf : frameO s (bytesOf D) = some f) => And.intro (frameO_lt hs8 hD8 hf) (frameO_len hf ht))
  generalize frameO s (bytesOf D) = o at *
  generalize hashO s (bytesOf D) = ho at *
  obtain ⟨W0, hW0⟩ : ∃ W, W = w.alloc (.cells (ints .u8 zero32).toArray 33) := ⟨_, rfl⟩
  rw [← hW0] at FR c0 G0
  have HW := Lib.hid hW0
  have C0 := Lib.hid c0
  clear h hs8 hs ht hD8 hC hW0 c0
  go_enter Tryd.func16, Tryd.ntmps16
  go_wp2_with fail
  have F := FR.out
  rw [HW.out] at F
  refine F.mono ?_
  rintro e w1 hf
  obtain ⟨A1, n1, c1, rfl, o1, b1⟩ := hf.u
  have b1 : New W0 w1 := by rw [HW.out]; exact b1
  have o1 : Own w1 W0.heap.size 5 (.slice A1 n1 c1) (nums .u8 (o.getD [])) := by rw [HW.out]; exact o1
  have G1 := Lib.hid (G0.out.below b1 G0.out.lt)
  have B1 := Lib.hid (New.trans C0.out b1)
  clear F FR hf HW C0 G0
  cases o with
  | none =>
    have hh : ho = zero32 := by rw [HO.out]; rfl
    subst hh
    have H := Lib.hid (And.intro (row_of_blk G1.out) (And.intro (i32d (l := zero32) (by simp [zero32])) (And.intro (ints_one .u8 zero32) (blk_setRow G1.out (ints .u8 zero32).toArray))))
    have BE := Lib.hid (New.far B1.out (far_setRow (g := w.heap.size) w1 (ints .u8 zero32).toArray) (Nat.le_refl _))
    clear G1 B1 b1 o1 HO
    go_wp2_with (refine wpList_store_row rfl 33 (.tmp 4) (.tmp 15) rfl w.heap.size (ints .u8 zero32).toArray rfl rfl _ _ H.out.1 H.out.2.1 rfl H.out.2.2.1 ?_)
    exact bodyPost_ret (results_cell_row rfl _ _ w.heap.size _ (ints .u8 zero32).toArray (0, 0) _ rfl H.out.2.2.2 digarr rfl H.out.2.1) rfl ⟨rfl, BE.out⟩
  | some f =>
    have hh : ho = sumI f := by rw [HO.out, Option.map_some, Option.getD_some]
    subst hh
    obtain ⟨f8, fl⟩ := HF8.out f rfl
    obtain rfl : n1 = f.length := by have := o1.len; rwa [nums_length] at this
    have SU := Lib.hid (sum_any (l := f) (c := c1) o1.reads f8 o1.cap.1 (by omega) (HC.out.new B1.out))
    clear o1 b1 HO HF8 HC
    go_wp2_with fail
    (with_reducible refine SU.out.mono ?_)
    rintro e w2 ⟨rfl, b2⟩
    have G2 := G1.out.below b2 G1.out.lt
    have B2 := New.trans B1.out b2
    have hz : (ints .u8 zero32).toArray.size = (ints .u8 (sumI f)).toArray.size := by simp [ints, zero32, sumI_len2]
    have H := Lib.hid (And.intro (row_of_blk G2) (And.intro (i32d (sumI_len2 f)) (And.intro hz (And.intro (ints_one .u8 (sumI f)) (blk_setRow G2 (ints .u8 (sumI f)).toArray)))))
    have BE := Lib.hid (New.far B2 (far_setRow (g := w.heap.size) w2 (ints .u8 (sumI f)).toArray) (Nat.le_refl _))
    obtain ⟨cs, hcs⟩ : ∃ cs, cs = (ints .u8 (sumI f)).toArray := ⟨_, rfl⟩
    have hdv : digV (sumI f) = .agg cs := by rw [hcs]; rfl
    have HV := Lib.hid hdv
    rw [← hcs] at H BE ⊢
    clear hcs hdv
    clear G1 B1 G2 B2 b2 SU hz
    go_wp2_with (refine wpList_store_row rfl 33 (.tmp 4) (.tmp 17) rfl w.heap.size cs rfl rfl _ _ H.out.1 H.out.2.1 H.out.2.2.1 H.out.2.2.2.1 ?_)
    rw [HV.out]
    exact bodyPost_ret (results_cell_row rfl _ _ w.heap.size _ cs (0, 0) _ rfl H.out.2.2.2.2 digarr rfl H.out.2.1) rfl ⟨rfl, BE.out⟩
set_option maxHeartbeats 1000000 in
set_option maxRecDepth 100000 in
theorem rhash_any {w : World} {s : List Nat} {A : Option Addr} {n c : Nat} {D : List PartS} (h : RowsAt w A n c D) (hn : n ≤ 9223372036854775806) (hs8 : ∀ x ∈ s, x < 256) (hs : s.length ≤ 140737488351232) (ht : tsum (bytesOf D) ≤ 990000) (hD8 : ∀ p ∈ bytesOf D, ∀ x ∈ p, x < 256) :
    Calls Tryd.prog 17 #[.string (bstr s), .slice A n c] w (NewPost (digV (hashO s (bytesOf D))) w) := by
  have c0 : New w (w.alloc (.cells (ints .u8 zero32).toArray 33)) := (Below.refl _ _).alloc (Nat.le_refl _) _
  have FR := Lib.hid (rframe_any (h.later c0) hn hs8 hs (by omega))
  have G0 := Lib.hid (Blk.new w 33 (ints .u8 zero32).toArray)
  have HO : hashO s (bytesOf D) = hashO s (bytesOf D) := rfl
  conv at HO => rhs; unfold hashO
  replace HO := Lib.hid HO
  have HF8 := Lib.hid (fun f (hf : frameO s (bytesOf D) = some f) => And.intro (frameO_lt hs8 hD8 hf) (frameO_len hf ht))
  generalize frameO s (bytesOf D) = o at *
  generalize hashO s (bytesOf D) = ho at *
  obtain ⟨W0, hW0⟩ : ∃ W, W = w.alloc (.cells (ints .u8 zero32).toArray 33) := ⟨_, rfl⟩
  rw [← hW0] at FR c0 G0
  have HW := Lib.hid hW0
  have C0 := Lib.hid c0
  clear h hs8 hs ht hD8 hW0 c0
  go_enter Tryd.func17, Tryd.ntmps17
  go_wp2_with fail
  have F := FR.out
  rw [HW.out] at F
  refine F.mono ?_
  rintro e w1 hf
  obtain ⟨A1, n1, c1, rfl, o1, b1⟩ := hf.u
  have b1 : New W0 w1 := by rw [HW.out]; exact b1
  have o1 : Own w1 W0.heap.size 5 (.slice A1 n1 c1) (nums .u8 (o.getD [])) := by rw [HW.out]; exact o1
  have G1 := Lib.hid (G0.out.below b1 G0.out.lt)
  have B1 := Lib.hid (New.trans C0.out b1)
  clear F FR hf HW C0 G0
  cases o with
  | none =>
    have hh : ho = zero32 := by rw [HO.out]; rfl
    subst hh
    have H := Lib.hid (And.intro (row_of_blk G1.out) (And.intro (i32d (l := zero32) (by simp [zero32])) (And.intro (ints_one .u8 zero32) (blk_setRow G1.out (ints .u8 zero32).toArray))))
    have BE := Lib.hid (New.far B1.out (far_setRow (g := w.heap.size) w1 (ints .u8 zero32).toArray) (Nat.le_refl _))
    clear G1 B1 b1 o1 HO
    go_wp2_with (refine wpList_store_row rfl 33 (.tmp 4) (.tmp 15) rfl w.heap.size (ints .u8 zero32).toArray rfl rfl _ _ H.out.1 H.out.2.1 rfl H.out.2.2.1 ?_)
    exact bodyPost_ret (results_cell_row rfl _ _ w.heap.size _ (ints .u8 zero32).toArray (0, 0) _ rfl H.out.2.2.2 digarr rfl H.out.2.1) rfl ⟨rfl, BE.out⟩
  | some f =>
    have hh : ho = sumI f := by rw [HO.out, Option.map_some, Option.getD_some]
    subst hh
    obtain ⟨f8, fl⟩ := HF8.out f rfl
    obtain rfl : n1 = f.length := by have := o1.len; rwa [nums_length] at this
    have SU := Lib.hid (rsum_any (l := f) (c := c1) o1.reads f8 (by omega))
    clear o1 b1 HO HF8
    go_wp2_with fail
    (with_reducible refine SU.out.mono ?_)
    rintro e w2 ⟨rfl, b2⟩
    have G2 := G1.out.below b2 G1.out.lt
    have B2 := New.trans B1.out b2
    have hz : (ints .u8 zero32).toArray.size = (ints .u8 (sumI f)).toArray.size := by simp [ints, zero32, sumI_len2]
    have H := Lib.hid (And.intro (row_of_blk G2) (And.intro (i32d (sumI_len2 f)) (And.intro hz (And.intro (ints_one .u8 (sumI f)) (blk_setRow G2 (ints .u8 (sumI f)).toArray)))))
    have BE := Lib.hid (New.far B2 (far_setRow (g := w.heap.size) w2 (ints .u8 (sumI f)).toArray) (Nat.le_refl _))
    obtain ⟨cs, hcs⟩ : ∃ cs, cs = (ints .u8 (sumI f)).toArray := ⟨_, rfl⟩
    have hdv : digV (sumI f) = .agg cs := by rw [hcs]; rfl
    have HV := Lib.hid hdv
    rw [← hcs] at H BE ⊢
    clear hcs hdv
    clear G1 B1 G2 B2 b2 SU hz
    go_wp2_with (refine wpList_store_row rfl 33 (.tmp 4) (.tmp 17) rfl w.heap.size cs rfl rfl _ _ H.out.1 H.out.2.1 H.out.2.2.1 H.out.2.2.2.1 ?_)
    rw [HV.out]
    exact bodyPost_ret (results_cell_row rfl _ _ w.heap.size _ cs (0, 0) _ rfl H.out.2.2.2.2 digarr rfl H.out.2.1) rfl ⟨rfl, BE.out⟩
/-- A log of nothing. -/
theorem new_any {w : World} : Calls Tryd.prog 18 #[] w fun e w' => e = .returned (.pointer (some ⟨w.heap.size, 0, none⟩)) ∧ w' = w.alloc (.cells #[.slice none 0 0] 54) := by
  go_enter Tryd.func18, Tryd.ntmps18
  go_wp2
  go_ret
  exact ⟨rfl, rfl⟩

end Go.Proofs.YtlfnhbnaegihfaaDoor
/- What a map of pairs holds, and which two frames are told by it. No program is named here. -/

namespace Go.Hm
open Go Go.RowKit
/-- Of each digest, the place of the first of k frames that has it, and of the first one that is unlike it. -/
def pairsF (B : List (List Nat)) : Nat → List Int → Option (Int × Int)
  | 0, _ => none
  | k + 1, d =>
    if d = sumI (B.getD k []) then
      match pairsF B k d with
      | none => some ((k : Int), -1)
      | some p => if p.2 = -1 ∧ B.getD p.1.toNat [] ≠ B.getD k [] then some (p.1, (k : Int)) else some p
    else pairsF B k d
/-- What such an entry says. -/
def PairIs (B : List (List Nat)) (k : Nat) (d : List Int) : Option (Int × Int) → Prop
  | none => ∀ i, i < k → sumI (B.getD i []) ≠ d
  | some p => ∃ a, a < k ∧ p.1 = (a : Int) ∧ sumI (B.getD a []) = d ∧ (∀ i, i < a → sumI (B.getD i []) ≠ d) ∧
      ((p.2 = -1 ∧ ∀ i, i < k → sumI (B.getD i []) = d → B.getD i [] = B.getD a []) ∨
        ∃ b, b < k ∧ p.2 = (b : Int) ∧ sumI (B.getD b []) = d ∧ B.getD b [] ≠ B.getD a [] ∧ ∀ i, i < b → sumI (B.getD i []) = d → B.getD i [] = B.getD a [])
theorem pairsF_is (B : List (List Nat)) (k : Nat) (d : List Int) : PairIs B k d (pairsF B k d) := by
  induction k with
  | zero => intro i hi; omega
  | succ k ih =>
    rw [pairsF]
    by_cases hd : d = sumI (B.getD k [])
    · rw [if_pos hd]
      cases hp : pairsF B k d with
      | none =>
        rw [hp] at ih
        refine ⟨k, by omega, rfl, hd.symm, ih, .inl ⟨rfl, fun i hi he => ?_⟩⟩
        by_cases hik : i = k
        · rw [hik]
        · exact absurd he (ih i (by omega))
      | some p =>
        rw [hp] at ih
        obtain ⟨a, ha, h1, h2, h3, h4⟩ := ih
        show PairIs B (k + 1) d (if _ then _ else _)
        have hat : p.1.toNat = a := by rw [h1]; rfl
        rw [hat]
        by_cases hc : p.2 = -1 ∧ B.getD a [] ≠ B.getD k []
        · rw [if_pos hc]
          refine ⟨a, by omega, h1, h2, h3, .inr ⟨k, by omega, rfl, hd.symm, fun e => hc.2 e.symm, fun i hi he => ?_⟩⟩
          rcases h4 with ⟨_, h5⟩ | ⟨b, hb, hb2, _⟩
          · exact h5 i hi he
          · rw [hb2] at hc; omega
        · rw [if_neg hc]
          refine ⟨a, by omega, h1, h2, h3, ?_⟩
          rcases h4 with ⟨h5, h6⟩ | ⟨b, hb, h5, h6, h7, h8⟩
          · refine .inl ⟨h5, fun i hi he => ?_⟩
            by_cases hik : i = k
            · rw [hik]
              by_cases heq : B.getD a [] = B.getD k []
              · exact heq.symm
              · exact absurd ⟨h5, heq⟩ hc
            · exact h6 i (by omega) he
          · exact .inr ⟨b, by omega, h5, h6, h7, h8⟩
    · rw [if_neg hd]
      cases hp : pairsF B k d with
      | none =>
        rw [hp] at ih
        intro i hi
        by_cases hik : i = k
        · rw [hik]
          exact fun e => hd e.symm
        · exact ih i (by omega)
      | some p =>
        rw [hp] at ih
        obtain ⟨a, ha, h1, h2, h3, h4⟩ := ih
        refine ⟨a, by omega, h1, h2, h3, ?_⟩
        rcases h4 with ⟨h5, h6⟩ | ⟨b, hb, h5, h6, h7, h8⟩
        · refine .inl ⟨h5, fun i hi he => ?_⟩
          by_cases hik : i = k
          · rw [hik] at he
            exact absurd he.symm hd
          · exact h6 i (by omega) he
        · exact .inr ⟨b, by omega, h5, h6, h7, h8⟩
theorem find_at {α : Type} {B : List α} {d : α} {p : α → Bool} {i : Nat} (hi : i < B.length) (hp : p (B.getD i d) = true) (hn : ∀ j, j < i → p (B.getD j d) = false) : B.find? p = some (B.getD i d) := by
  induction B generalizing i with
  | nil => simp at hi
  | cons x B ih =>
    cases i with
    | zero => rw [List.find?_cons_of_pos (by simpa using hp)]; rfl
    | succ i =>
      have h0 : p x = false := hn 0 (by omega)
      rw [List.find?_cons_of_neg (by simp [h0])]
      exact ih (by simpa using hi) hp fun j hj => hn (j + 1) (by omega)
theorem find_no {α : Type} {B : List α} {d : α} {p : α → Bool} (hn : ∀ j, j < B.length → p (B.getD j d) = false) : B.find? p = none := by
  rw [List.find?_eq_none]
  intro x hx
  obtain ⟨i, hi, rfl⟩ := List.getElem_of_mem hx
  have := hn i hi
  rw [List.getD_eq_getElem?_getD, List.getElem?_eq_getElem hi, Option.getD_some] at this
  simp [this]
/-- The first frame that is unlike x and has its digest, by the map. -/
theorem find_pairs (B : List (List Nat)) (x : List Nat) :
    (B.find? fun y => decide (x ≠ y ∧ sumI x = sumI y)) = (match pairsF B B.length (sumI x) with
      | none => none
      | some p => if x ≠ B.getD p.1.toNat [] then some (B.getD p.1.toNat []) else if p.2 ≠ -1 then some (B.getD p.2.toNat []) else none) := by
  have h := pairsF_is B B.length (sumI x)
  cases hp : pairsF B B.length (sumI x) with
  | none =>
    rw [hp] at h
    exact find_no (d := []) fun j hj => decide_eq_false fun hc => h j hj hc.2.symm
  | some p =>
    rw [hp] at h
    obtain ⟨a, ha, h1, h2, h3, h4⟩ := h
    have hat : p.1.toNat = a := by rw [h1]; rfl
    simp only [hat]
    by_cases hx : x ≠ B.getD a []
    · rw [if_pos hx]
      exact find_at ha (decide_eq_true ⟨hx, h2.symm⟩) fun j hj => decide_eq_false fun hc => h3 j hj hc.2.symm
    · rw [if_neg hx]
      have hx : x = B.getD a [] := Classical.not_not.1 hx
      rcases h4 with ⟨h5, h6⟩ | ⟨b, hb, h5, h6, h7, h8⟩
      · rw [if_neg (by rw [h5]; simp)]
        exact find_no (d := []) fun j hj => decide_eq_false fun hc => hc.1 (by rw [h6 j hj hc.2.symm]; exact hx)
      · rw [if_pos (by rw [h5]; omega), h5, Int.toNat_natCast]
        exact find_at hb (decide_eq_true ⟨by rw [hx]; exact fun e => h7 e.symm, h6.symm⟩) fun j hj => decide_eq_false fun hc => hc.1 (by rw [h8 j hj hc.2.symm]; exact hx)

end Go.Hm
/- Contracts on bytes.Equal, tag.pairs. -/

namespace Go.Proofs.YtlfnhbnaegihfaaDoor
open Go.RowKit Go.Hm
theorem arrK : WideMaps.ArrKey Tryd.prog 33 5 32 := ⟨by kernel_rfl, by kernel_rfl, by kernel_rfl, by kernel_rfl⟩
theorem rowK : (33 : TypeId) < Tryd.prog.types.size := of_decide_eq_true (by kernel_rfl)
theorem keyedK : Maps.Keyed Tryd.prog 33 := Maps.Keyed.of_law (deep_law_laid Tryd.laidOut (m := 2) (by omega) rowK (by kernel_rfl) (by kernel_rfl))
theorem sizeK : ∃ m, Tryd.prog.types.size = m + 1 := ⟨Tryd.prog.types.size - 1, by have := Nat.lt_of_le_of_lt (Nat.zero_le _) rowK; omega⟩
theorem digOk (l : List Nat) : DigOk (sumI l) := by
  refine ⟨sumI_len2 l, fun x hx => ?_⟩
  unfold sumI digI at hx
  obtain ⟨k, _, rfl⟩ := List.mem_map.1 hx
  unfold digB
  omega
theorem keyAt (l : List Nat) : ∃ kl, keyOf Tryd.prog 33 (digV (sumI l)) = some kl := key_dig arrK (by kernel_rfl) (by kernel_rfl) (by kernel_rfl) sizeK (digOk l)
theorem mapT : Tryd.prog.underlying 63 = some (.map 33 66) := by kernel_rfl
theorem zeroPair (w : World) : (zeroValue 66).run Tryd.prog w = .ok (pairV (0, 0)) w := by kernel_rfl
theorem equal_any {w : World} {A B : Option Addr} {n m c e : Nat} {l k : List Nat} (h : Reads w w.heap.size 1 A n (nums .u8 l)) (hk : Reads w w.heap.size 1 B m (nums .u8 k)) (h8 : ∀ x ∈ l, x < 256) (k8 : ∀ x ∈ k, x < 256) :
    Calls Tryd.prog 36 #[.slice A n c, .slice B m e] w (ValPost (.bool (decide (l = k))) w) := by
  have BB := Lib.hid (bstr_beq h8 k8)
  have q1 := run_strB (c := c) h
  have q2 := run_strB (c := e) hk
  clear h8 k8 h hk
  go_enter Tryd.func36, Tryd.ntmps36
  go_wp2
  go_ret
  exact ⟨by simp [BB.out], rfl⟩

end Go.Proofs.YtlfnhbnaegihfaaDoor
/- Contract on tag.pairs. -/

namespace Go.Hm
open Go Go.RowKit
theorem MapF.mono {P : Program} {k : TypeId} {w : World} {b n m : Nat} {f : List Int → Option (Int × Int)} (h : MapF P k w b n f) (hn : n ≤ m) : MapF P k w b m f := by
  obtain ⟨D, h1, h2⟩ := h
  exact ⟨D, h1.mono hn, h2⟩
theorem MapF.new {P : Program} {k : TypeId} {w w' : World} {b n : Nat} {f : List Int → Option (Int × Int)} (h : MapF P k w b n f) (hb : New w w') : MapF P k w' b n f :=
  h.kept (row := none) ⟨hb.os, hb.tape, hb.output, hb.size, fun j hj _ => hb.block j hj⟩ (by simp)

end Go.Hm

namespace Go.Proofs.YtlfnhbnaegihfaaDoor
open Go.RowKit Go.Hm
theorem run_mkMap (W : World) (n : Int) : (Instr.makeMap 63 (some (.int .i64 n))).run Tryd.prog W = .ok (.map (some W.heap.size)) (W.alloc (.map #[] 0)) := by
  simp [Instr.makeMap, run_underlying mapT, asInt, asIntOf, Result.andThen]
set_option maxHeartbeats 2000000 in
set_option maxRecDepth 100000 in
theorem pairs_any {w : World} {A : Option Addr} {n c : Nat} {D : List PartS} (h : RowsAt w A n c D) (hn : n ≤ 9223372036854775806) (h8 : ∀ p ∈ bytesOf D, (∀ x ∈ p, x < 256) ∧ p.length ≤ 1000000) (hC : ConstIn w) :
    Calls Tryd.prog 35 #[.slice A n c, .func (.func 23) #[] #[]] w fun e w' => e = .returned (.map (some w.heap.size)) ∧ MapF Tryd.prog 33 w' w.heap.size n (pairsF (bytesOf D) D.length) ∧ New w w' := by
  obtain rfl := h.len
  have HR := Lib.hid h
  have H8 := Lib.hid h8
  have HC := Lib.hid hC
  have HB := Lib.hid (bytesOf_len D)
  have hmm := run_mkMap
  have b0 : New w (w.alloc (.map #[] 0)) := (Below.refl _ _).alloc (Nat.le_refl _) _
  have M0 : Hid (MapF Tryd.prog 33 (w.alloc (.map #[] 0)) w.heap.size 0 (pairsF (bytesOf D) 0)) := Lib.hid (MapF.made w)
  have B0 := Lib.hid b0
  clear h h8 hC b0
  go_enter Tryd.func35, Tryd.ntmps35
  go_wp2
  go_loopw [16] (fun i wr => ∃ k : Nat, k ≤ D.length ∧ i = .int .i64 (k : Int) ∧ Hid (MapF Tryd.prog 33 wr w.heap.size k (pairsF (bytesOf D) k)) ∧ Hid (New w wr)) (fun i _ => D.length - (intOf i).toNat)
  case atStart => exact ⟨0, by omega, rfl, M0, B0⟩
  case round =>
    clear M0 B0
    obtain ⟨k, hk, rfl, M, b⟩ := hrel
    by_cases hlt : k < D.length
    · obtain ⟨ad, rfl, _⟩ := HR.out.at_ hlt
      have hc := HR.out.cells hlt wr b.out
      have RD := ((HR.out.later b.out).parts.at_ hlt)
      have e1 := bytesOf_at D k
      have g1 := H8.out _ (mem_getD (L := bytesOf D) (k := k) (by rw [HB.out]; exact hlt))
      rw [e1] at g1
      have HE1 := Lib.hid e1
      generalize D.getD k (none, 0, []) = d at *
      have SU := Lib.hid (sum_any (c := d.2.1) RD.1 g1.1 RD.2.1 g1.2 (HC.out.new b.out))
      go_wp2_with fail
      refine SU.out.mono ?_
      rintro e w1 ⟨rfl, b1⟩
      have M1 := M.out.new b1
      obtain ⟨cs, hcs⟩ : ∃ cs, cs = (ints .u8 (sumI d.2.2)).toArray := ⟨_, rfl⟩
      have hz : (ints .u8 zero32).toArray.size = cs.size := by rw [hcs]; simp [ints, zero32, sumI_len2]
      have hi : (Tryd.prog.info? 33).map (·.size) = some cs.size := by rw [hcs]; exact i32d (sumI_len2 _)
      have ho := ints_one .u8 (sumI d.2.2)
      rw [← hcs] at ho ⊢
      have HD := Lib.hid (show .agg cs = digV (sumI d.2.2) by rw [hcs]; rfl)
      have M2 := Lib.hid (M1.new (w' := (w1.alloc (.cells cs 33))) ((Below.refl _ _).alloc (Nat.le_refl _) _))
      have G2 := Lib.hid (row_of_blk (Blk.new w1 33 cs))
      have KY := Lib.hid (keyAt d.2.2)
      have RDD := Lib.hid RD.1
      have G8 := Lib.hid g1.1
      clear hcs M1 RD e1
      have hPF : ∀ m, pairsF (bytesOf D) (k + 1) m = if m = sumI d.2.2 then (match pairsF (bytesOf D) k m with | none => some ((k : Int), -1) | some p => if p.2 = -1 ∧ (bytesOf D).getD p.1.toNat [] ≠ d.2.2 then some (p.1, (k : Int)) else some p) else pairsF (bytesOf D) k m := fun m => by
        rw [pairsF, HE1.out]
        all_goals
          by_cases hm : m = sumI d.2.2
          · rw [if_pos hm, if_pos hm]
            cases pairsF (bytesOf D) k m <;> rfl
          · rw [if_neg hm, if_neg hm]
      cases hf : pairsF (bytesOf D) k (sumI d.2.2) with
      | none =>
        have HF := Lib.hid hf
        have HP := Lib.hid (show (fun m => if m = sumI d.2.2 then some ((k : Int), (-1 : Int)) else pairsF (bytesOf D) k m) = pairsF (bytesOf D) (k + 1) from funext fun m => by
          rw [hPF]
          by_cases hm : m = sumI d.2.2
          · rw [if_pos hm, if_pos hm, hm, hf]
          · rw [if_neg hm, if_neg hm])
        have c3 : New (w1.alloc (.cells cs 33)) ((w1.alloc (.cells cs 33)).alloc (.cells #[.int .i64 0, .int .i64 0] 66)) := (Below.refl _ _).alloc (Nat.le_refl _) _
        have M3 := Lib.hid (M2.out.new c3)
        have G3 := Lib.hid (row_of_blk ((Blk.new w1 33 cs).alloc (.cells #[.int .i64 0, .int .i64 0] 66)))
        have B3 := Lib.hid (New.trans (New.trans b.out b1) (New.trans ((Below.refl _ _).alloc (Nat.le_refl _) (.cells cs 33)) c3))
        clear hf hPF c3 b1
        go_wp2_with (first
          | (refine wpList_store_row rfl 33 (.tmp 8) (.tmp 23) rfl w1.heap.size cs rfl rfl _ _ (heap_alloc_new _ _) hi hz ho ?_; rw [alloc_setRow])
          | (refine wpList_load_row rfl 33 (.tmp 8) rfl w1.heap.size rfl _ cs _ _ G2.out digarr rfl hi ?_)
          | (refine wpList_load_row rfl 33 (.tmp 8) rfl w1.heap.size rfl _ cs _ _ G3.out digarr rfl hi ?_)
          | (rw [HD.out]; refine wpList_lookF rfl (.tmp 25) (.tmp 26) 63 rfl keyedK mapT (zeroPair _) M2.out KY.out rfl rfl ?_; rw [HF.out]; simp only [pairV, Option.getD_none, Option.isSome_none])
          | (rw [HD.out]; refine wpList_putF rfl (.tmp 32) (.tmp 33) (.tmp 35) 63 rfl keyedK mapT M3.out (by simp only [maxLen]; omega) KY.out ((k : Int), -1) rfl rfl rfl ?_
             intro w4 M4 g4)
          | fail)
        rw [HP.out] at M4
        have M5 := Lib.hid M4
        have B5 := Lib.hid (below_gr B3.out g4 (Nat.le_refl _) (Nat.le_refl _))
        clear M4 g4
        go_roundw
        case rel => exact ⟨k + 1, by omega, by go_num, M5, B5⟩
        case measure => simp [intOf]; omega
      | some p =>
        have hpi := pairsF_is (bytesOf D) k (sumI d.2.2)
        rw [hf] at hpi
        obtain ⟨a, ha, h1, _⟩ := hpi
        obtain ⟨p1, p2⟩ := p
        obtain rfl : p1 = (a : Int) := h1
        have hal : a < D.length := by omega
        have c3 : New (w1.alloc (.cells cs 33)) ((w1.alloc (.cells cs 33)).alloc (.cells #[.int .i64 (a : Int), .int .i64 p2] 66)) := (Below.refl _ _).alloc (Nat.le_refl _) _
        have M3 := Lib.hid (M2.out.new c3)
        have G3 := Lib.hid (row_of_blk ((Blk.new w1 33 cs).alloc (.cells #[.int .i64 (a : Int), .int .i64 p2] 66)))
        have b3 := New.trans (New.trans b.out b1) (New.trans ((Below.refl _ _).alloc (Nat.le_refl _) (.cells cs 33)) c3)
        have ca := HR.out.cells hal _ b3
        have Ra := ((HR.out.later b3).parts.at_ hal).1
        have Rd := Lib.hid (Reads.later RDD.out (New.trans b1 (New.trans ((Below.refl _ _).alloc (Nat.le_refl _) (.cells cs 33)) c3)))
        have ga := (H8.out _ (mem_getD (L := bytesOf D) (k := a) (by rw [HB.out]; exact hal))).1
        have ea := bytesOf_at D a
        have hPF2 := hPF (sumI d.2.2)
        rw [if_pos rfl, hf] at hPF2
        simp only [Int.toNat_natCast] at hPF2
        rw [ea] at ga hPF2
        generalize D.getD a (none, 0, []) = x at *
        have EQ := Lib.hid (equal_any (c := x.2.1) (e := d.2.1) Ra Rd.out ga G8.out)
        have HF := Lib.hid hf
        have B3 := Lib.hid b3
        by_cases hp2 : p2 = -1
        · skip
          have d1 : (p2 == (-1 : Int)) = true := by rw [beq_iff_eq]; exact hp2
          subst hp2
          by_cases hx : x.2.2 = d.2.2
          · rw [decide_eq_true hx] at EQ
            rw [if_neg (fun h => h.2 hx)] at hPF2
            have HP := Lib.hid (show pairsF (bytesOf D) k = pairsF (bytesOf D) (k + 1) from funext fun m => by
              by_cases hm : m = sumI d.2.2
              · rw [hm, hf, hPF2]
              · rw [hPF, if_neg hm])
            clear hf hPF hPF2 c3 b1 Ra ga ea b3 hx
            go_wp2_with (first
              | (refine wpList_store_row rfl 33 (.tmp 8) (.tmp 23) rfl w1.heap.size cs rfl rfl _ _ (heap_alloc_new _ _) hi hz ho ?_; rw [alloc_setRow])
              | (refine wpList_load_row rfl 33 (.tmp 8) rfl w1.heap.size rfl _ cs _ _ G2.out digarr rfl hi ?_)
              | (refine wpList_load_row rfl 33 (.tmp 8) rfl w1.heap.size rfl _ cs _ _ G3.out digarr rfl hi ?_)
              | (rw [HD.out]; refine wpList_lookF rfl (.tmp 25) (.tmp 26) 63 rfl keyedK mapT (zeroPair _) M2.out KY.out rfl rfl ?_; rw [HF.out]; simp only [pairV, Option.getD_some, Option.isSome_some])
              | (go_at_call 36; (with_reducible refine EQ.out.mono ?_); rintro e5 w5 ⟨rfl, rfl⟩)
              | fail)
            have M5 := Lib.hid (show MapF Tryd.prog 33 _ w.heap.size (k + 1) (pairsF (bytesOf D) (k + 1)) by rw [← HP.out]; exact M3.out.mono (by omega))
            go_roundw
            case rel => exact ⟨k + 1, by omega, by go_num, M5, B3⟩
            case measure => simp [intOf]; omega
          · rw [decide_eq_false hx] at EQ
            rw [if_pos ⟨rfl, hx⟩] at hPF2
            have HP := Lib.hid (show (fun m => if m = sumI d.2.2 then some ((a : Int), (k : Int)) else pairsF (bytesOf D) k m) = pairsF (bytesOf D) (k + 1) from funext fun m => by
              by_cases hm : m = sumI d.2.2
              · rw [if_pos hm, hm, hPF2]
              · rw [hPF, if_neg hm, if_neg hm])
            clear hf hPF hPF2 c3 b1 Ra ga ea b3 hx
            go_wp2_with (first
              | (refine wpList_store_row rfl 33 (.tmp 8) (.tmp 23) rfl w1.heap.size cs rfl rfl _ _ (heap_alloc_new _ _) hi hz ho ?_; rw [alloc_setRow])
              | (refine wpList_load_row rfl 33 (.tmp 8) rfl w1.heap.size rfl _ cs _ _ G2.out digarr rfl hi ?_)
              | (refine wpList_load_row rfl 33 (.tmp 8) rfl w1.heap.size rfl _ cs _ _ G3.out digarr rfl hi ?_)
              | (rw [HD.out]; refine wpList_lookF rfl (.tmp 25) (.tmp 26) 63 rfl keyedK mapT (zeroPair _) M2.out KY.out rfl rfl ?_; rw [HF.out]; simp only [pairV, Option.getD_some, Option.isSome_some])
              | (go_at_call 36; (with_reducible refine EQ.out.mono ?_); rintro e5 w5 ⟨rfl, rfl⟩)
              | (rw [HD.out]; refine wpList_putF rfl (.tmp 49) (.tmp 50) (.tmp 54) 63 rfl keyedK mapT M3.out (by simp only [maxLen]; omega) KY.out ((a : Int), (k : Int)) rfl rfl rfl ?_
                 intro w4 M4 g4)
              | fail)
            rw [HP.out] at M4
            have M5 := Lib.hid M4
            have B5 := Lib.hid (below_gr B3.out g4 (Nat.le_refl _) (Nat.le_refl _))
            clear M4 g4
            go_roundw
            case rel => exact ⟨k + 1, by omega, by go_num, M5, B5⟩
            case measure => simp [intOf]; omega
        · have d1 : (p2 == (-1 : Int)) = false := by rw [beq_eq_false_iff_ne]; exact hp2
          rw [if_neg (fun h => hp2 h.1)] at hPF2
          have HP := Lib.hid (show pairsF (bytesOf D) k = pairsF (bytesOf D) (k + 1) from funext fun m => by
            by_cases hm : m = sumI d.2.2
            · rw [hm, hf, hPF2]
            · rw [hPF, if_neg hm])
          clear hf hPF hPF2 c3 b1 Ra ga ea b3
          go_wp2_with (first
            | (refine wpList_store_row rfl 33 (.tmp 8) (.tmp 23) rfl w1.heap.size cs rfl rfl _ _ (heap_alloc_new _ _) hi hz ho ?_; rw [alloc_setRow])
            | (refine wpList_load_row rfl 33 (.tmp 8) rfl w1.heap.size rfl _ cs _ _ G2.out digarr rfl hi ?_)
            | (rw [HD.out]; refine wpList_lookF rfl (.tmp 25) (.tmp 26) 63 rfl keyedK mapT (zeroPair _) M2.out KY.out rfl rfl ?_; rw [HF.out]; simp only [pairV, Option.getD_some, Option.isSome_some])
            | fail)
          have M5 := Lib.hid (show MapF Tryd.prog 33 _ w.heap.size (k + 1) (pairsF (bytesOf D) (k + 1)) by rw [← HP.out]; exact M3.out.mono (by omega))
          go_roundw
          case rel => exact ⟨k + 1, by omega, by go_num, M5, B3⟩
          case measure => simp [intOf]; omega
    · obtain rfl : k = D.length := by omega
      go_wp2
      go_ret
      exact ⟨rfl, M.out, b.out⟩

end Go.Proofs.YtlfnhbnaegihfaaDoor
/- Contract on hypostyleref02.Parse. -/

namespace Go.Hm
open Go Go.RowKit
theorem num8 {l : List Nat} (h : 8 ≤ l.length) : num (l.take 8) = l.getD 0 0 + 256 * l.getD 1 0 + 65536 * l.getD 2 0 + 16777216 * l.getD 3 0 + 4294967296 * (l.getD 4 0 + 256 * l.getD 5 0 + 65536 * l.getD 6 0 + 16777216 * l.getD 7 0) := by
  match l, h with
  | a :: b :: c :: d :: e :: f :: g :: i :: r, _ =>
    simp [num]
    omega
theorem recsP_at (D : List PartS) (d : PartS) (N : Nat) (h : D.length = N) : recs partV (D ++ [d]) = recs partV D ++ [.slice d.1 d.2.2.length d.2.1] ∧ (recs partV D).length = N := ⟨recsP_snoc D d, by rw [recsP_len, h]⟩

end Go.Hm

namespace Go.Proofs.YtlfnhbnaegihfaaDoor
open Go.RowKit Go.Hm
set_option maxHeartbeats 2000000 in
set_option maxRecDepth 100000 in
theorem rparse_any {w : World} {A : Option Addr} {n c : Nat} {l : List Nat} (h : Reads w w.heap.size 1 A n (nums .u8 l)) (h8 : ∀ x ∈ l, x < 256) (hc : n ≤ c) (hm : c ≤ 9223372036854775807) (hl : n ≤ 4294967295) :
    Calls Tryd.prog 14 #[.slice A n c] w (ParsePost (parseO l) w) := by
  obtain rfl := h.len
  have HR := Lib.hid h
  have H8 := Lib.hid h8
  obtain ⟨o, ho⟩ : ∃ o, o = parseO l := ⟨_, rfl⟩
  have HO : parseO l = parseO l := rfl
  conv at HO => rhs; unfold parseO
  rw [← ho] at HO ⊢
  clear ho
  by_cases h0 : l.length < 2
  · rw [if_neg (by omega)] at HO
    replace HO := Lib.hid HO
    have d0 : decide ((l.length : Int) < 2) = true := decide_eq_true (by omega)
    clear h h8
    go_enter Tryd.func14, Tryd.ntmps14
    go_wp2
    go_ret3
    rw [HO.out]
    exact ParsePost.none_ (Below.refl _ _)
  have d0 : decide ((l.length : Int) < 2) = false := decide_eq_false (by omega)
  have h02 : 2 ≤ l.length := by omega
  obtain ⟨ad, rfl, hb, hcell⟩ := HR.out.num (i := 0) (by omega)
  have hcell0 : w.cell? ad = some (.int .u8 ((l.getD 0 0 : Nat) : Int)) := by rw [add_zero'] at hcell; exact hcell
  have hx8 : l.getD 0 0 < 256 := getD_lt l 0 h8
  generalize hx : l.getD 0 0 = x at *
  have HX := Lib.hid hx
  clear hcell hx h h8
  by_cases h1 : x = 0
  · subst h1
    rw [if_neg (by omega)] at HO
    replace HO := Lib.hid HO
    go_enter Tryd.func14, Tryd.ntmps14
    go_wp2
    go_ret3
    rw [HO.out]
    exact ParsePost.none_ (Below.refl _ _)
  have d1 : ((x : Int) == 0) = false := by rw [beq_eq_false_iff_ne]; omega
  by_cases h2 : l.length < 2 + x
  · rw [if_neg (by omega)] at HO
    replace HO := Lib.hid HO
    have d2 : decide ((l.length : Int) < 2 + (x : Int)) = true := decide_eq_true (by omega)
    go_enter Tryd.func14, Tryd.ntmps14
    go_wp2
    go_ret3
    rw [HO.out]
    exact ParsePost.none_ (Below.refl _ _)
  have d2 : decide ((l.length : Int) < 2 + (x : Int)) = false := decide_eq_false (by omega)
  rw [if_pos (by omega)] at HO
  replace HO := Lib.hid HO
  have hB1 : 1 + x < l.length := by omega
  have hcB : w.cell? (ad.add (1 + x)) = some (.int .u8 ((l.getD (1 + x) 0 : Nat) : Int)) := by
    obtain ⟨_, e1, _, hcB⟩ := HR.out.num (i := 1 + x) hB1
    obtain rfl := Option.some.inj e1
    exact hcB
  have hN8 : l.getD (1 + x) 0 < 256 := getD_lt l _ H8.out
  obtain ⟨B1, hB⟩ : ∃ y, y = 1 + x := ⟨_, rfl⟩
  rw [← hB] at HO hcB hB1 hN8
  generalize l.getD B1 0 = N at *
  obtain ⟨B2, hB2⟩ : ∃ y, y = 2 + x := ⟨_, rfl⟩
  rw [← hB2] at HO
  have i1 : (1 : Int) + (x : Int) = (B1 : Int) := by omega
  have i2 : (2 : Int) + (x : Int) = (B2 : Int) := by omega
  have d3 : decide ((l.length : Int) < (B2 : Int)) = false := decide_eq_false (by omega)
  have d4 : decide (l.length < B2) = false := decide_eq_false (by omega)
  have hB2l : B2 ≤ l.length := by omega
  have j1 : (B1 : Int) < (l.length : Int) := by omega
  have SL1 := slice_lh (P := Tryd.prog) sB zB (some ad) l.length c 1 B1 (by omega) (by omega) w
  have SL2 := slice_l (P := Tryd.prog) sB zB (some ad) l.length c B2 hB2l w
  rw [show B1 - 1 = x by omega] at SL1
  have r1 := (HR.out.cut (k := 1) (cap := c) (by omega) hc).take (k := x) (by omega)
  have r2 := HR.out.cut (k := B2) (cap := c) hB2l hc
  rw [Nat.mul_one, Nat.mul_one, nums_drop, nums_take] at r1
  rw [Nat.mul_one, nums_drop] at r2
  have hA1 : (if c = 1 then some ad else (some ad).map (·.add 1)) = some ⟨ad.block, ad.off + 1, none⟩ := by rw [if_neg (by omega)]; rfl
  rw [hA1] at r1 SL1
  have hB1x : B1 - 1 = x := by omega
  generalize (if c = B2 then some ad else (some ad).map (·.add B2)) = A2 at *
  have hR8 : ∀ x ∈ l.drop B2, x < 256 := fun x hx => H8.out x (List.mem_of_mem_drop hx)
  have hRl : l.length - B2 = (l.drop B2).length := by rw [List.length_drop]
  rw [hRl] at r2 SL2
  have hc2 : (l.drop B2).length ≤ c - B2 := by rw [← hRl]; omega
  have hl2 : (l.drop B2).length ≤ 4294967295 := by rw [← hRl]; omega
  have ST := run_str (P := Tryd.prog) (src := 23) (dst := 9) (c := c - 1) (e := 5) (by kernel_rfl) (by kernel_rfl) (by kernel_rfl) r1
  generalize l.drop B2 = R at *
  generalize (l.drop 1).take x = s at *
  have R2 := Lib.hid r2
  have HR8 := Lib.hid hR8
  have HC2 := Lib.hid hc2
  have HL2 := Lib.hid hl2
  clear hRl r1 r2 hR8 hB2 hB hc2 hl2
  go_enter Tryd.func14, Tryd.ntmps14
  go_wp2
  have HP := Lib.hid (show partsO N R = (partsO (N - 0) R).map fun q => (bytesOf [] ++ q.1, q.2) by simp [bytesOf])
  obtain ⟨R0, hR0⟩ : ∃ R0, R0 = partsO N R := ⟨_, rfl⟩
  rw [← hR0] at HP HO
  clear hR0 SL1 SL2 ST i1 i2 d0 d1 d2 d3 d4 j1 hcell0 hcB
  go_loopw [0, 7, 8] (fun vr vp i wr => ∃ (k cr c2 : Nat) (Ar A2 : Option Addr) (R : List Nat) (D : List PartS), k ≤ N ∧ i = .int .i64 (k : Int) ∧ vr = .slice Ar R.length cr ∧ vp = .slice A2 k c2 ∧ Hid (D.length = k) ∧ Hid (Own wr w.heap.size 23 (.slice A2 k c2) (recs partV D)) ∧ Hid (PartsIn w D) ∧ Hid (Reads w w.heap.size 1 Ar R.length (nums .u8 R)) ∧ Hid (∀ x ∈ R, x < 256) ∧ R.length ≤ cr ∧ cr ≤ 9223372036854775807 ∧ R.length ≤ 4294967295 ∧ Hid (R0 = (partsO (N - k) R).map fun q => (bytesOf D ++ q.1, q.2)) ∧ Hid (New w wr)) (fun _ _ i _ => N - (intOf i).toNat)
  case atStart => exact ⟨0, c - B2, 0, A2, none, R, [], by omega, rfl, rfl, rfl, Lib.hid rfl, Lib.hid Own.nil_, Lib.hid (fun d hd => nomatch hd), R2, HR8, HC2.out, by omega, HL2.out, HP, Lib.hid (Below.refl _ _)⟩
  case round =>
    clear R2 HR8 HC2 HL2 HP
    obtain ⟨k, cr, c2, Ar, A3, R, D, hk, rfl, rfl, rfl, HD, O, T, RR, R8, hcr, hcm, hRl, HP, b⟩ := hrel
    by_cases hlt : k < N
    · have hst := parts_step hlt R
      have hno (hf : firstO R = none) : Hid (o = none) := Lib.hid (by rw [HO.out, HP.out, hst, hf]; rfl)
      have hfo : firstO R = firstO R := rfl
      conv at hfo => rhs; unfold firstO
      by_cases g0 : R.length < 8
      · rw [if_neg (by omega)] at hfo
        have HN := hno hfo
        have e0 : decide ((R.length : Int) < 8) = true := decide_eq_true (by omega)
        clear hfo HP hst O T RR hno
        go_wp2
        go_ret3
        rw [HN.out]
        exact ParsePost.none_ b.out
      have e0 : decide ((R.length : Int) < 8) = false := decide_eq_false (by omega)
      have hn8 := num8 (l := R) (by omega)
      have RB := Reads.later RR.out b.out
      obtain ⟨ar, rfl, _, c0⟩ := RB.num (i := 0) (by omega)
      rw [add_zero'] at c0
      obtain ⟨_, q1, _, c1⟩ := RB.num (i := 1) (by omega)
      obtain ⟨_, q2, _, c2'⟩ := RB.num (i := 2) (by omega)
      obtain ⟨_, q3, _, c3⟩ := RB.num (i := 3) (by omega)
      obtain ⟨_, q4, _, c4⟩ := RB.num (i := 4) (by omega)
      obtain ⟨_, q5, _, c5⟩ := RB.num (i := 5) (by omega)
      obtain ⟨_, q6, _, c6⟩ := RB.num (i := 6) (by omega)
      obtain ⟨_, q7, _, c7⟩ := RB.num (i := 7) (by omega)
      obtain rfl := Option.some.inj q1
      obtain rfl := Option.some.inj q2
      obtain rfl := Option.some.inj q3
      obtain rfl := Option.some.inj q4
      obtain rfl := Option.some.inj q5
      obtain rfl := Option.some.inj q6
      obtain rfl := Option.some.inj q7
      have k0 := getD_lt R 0 R8.out
      have k1 := getD_lt R 1 R8.out
      have k2 := getD_lt R 2 R8.out
      have k3 := getD_lt R 3 R8.out
      generalize R.getD 0 0 = x0 at *
      generalize R.getD 1 0 = x1 at *
      generalize R.getD 2 0 = x2 at *
      generalize R.getD 3 0 = x3 at *
      generalize R.getD 4 0 = x4 at *
      generalize R.getD 5 0 = x5 at *
      generalize R.getD 6 0 = x6 at *
      generalize R.getD 7 0 = x7 at *
      clear q1 q2 q3 q4 q5 q6 q7 RB
      replace c1 : wr.cell? ⟨ar.block, ar.off + 1, none⟩ = some (.int .u8 (x1 : Int)) := c1
      have c2x : wr.cell? ⟨ar.block, ar.off + 2, none⟩ = some (.int .u8 (x2 : Int)) := c2'
      replace c3 : wr.cell? ⟨ar.block, ar.off + 3, none⟩ = some (.int .u8 (x3 : Int)) := c3
      replace c4 : wr.cell? ⟨ar.block, ar.off + 4, none⟩ = some (.int .u8 (x4 : Int)) := c4
      replace c5 : wr.cell? ⟨ar.block, ar.off + 5, none⟩ = some (.int .u8 (x5 : Int)) := c5
      replace c6 : wr.cell? ⟨ar.block, ar.off + 6, none⟩ = some (.int .u8 (x6 : Int)) := c6
      replace c7 : wr.cell? ⟨ar.block, ar.off + 7, none⟩ = some (.int .u8 (x7 : Int)) := c7
      by_cases g4 : x4 = 0 ∧ x5 = 0 ∧ x6 = 0 ∧ x7 = 0
      · obtain ⟨rfl, rfl, rfl, rfl⟩ := g4
        replace c4 : wr.cell? ⟨ar.block, ar.off + 4, none⟩ = some (.int .u8 0) := c4
        replace c5 : wr.cell? ⟨ar.block, ar.off + 5, none⟩ = some (.int .u8 0) := c5
        replace c6 : wr.cell? ⟨ar.block, ar.off + 6, none⟩ = some (.int .u8 0) := c6
        replace c7 : wr.cell? ⟨ar.block, ar.off + 7, none⟩ = some (.int .u8 0) := c7
        obtain ⟨M, hM⟩ : ∃ M, M = num (R.take 8) := ⟨_, rfl⟩
        rw [← hM] at hfo hn8
        have a1 : IntKind.i64.wrap (x0 : Int) = (x0 : Int) := by rw [IntKind.wrap_i64]; omega
        have a2 : IntKind.i64.wrap (x1 : Int) = (x1 : Int) := by rw [IntKind.wrap_i64]; omega
        have a3 : IntKind.i64.wrap (x2 : Int) = (x2 : Int) := by rw [IntKind.wrap_i64]; omega
        have a4 : IntKind.i64.wrap (x3 : Int) = (x3 : Int) := by rw [IntKind.wrap_i64]; omega
        obtain ⟨y1, hy1⟩ : ∃ y : Int, y = 256 * (x1 : Int) := ⟨_, rfl⟩
        obtain ⟨y2, hy2⟩ : ∃ y : Int, y = 65536 * (x2 : Int) := ⟨_, rfl⟩
        obtain ⟨y3, hy3⟩ : ∃ y : Int, y = 16777216 * (x3 : Int) := ⟨_, rfl⟩
        obtain ⟨z1, hz1⟩ : ∃ y : Int, y = (x0 : Int) + y1 := ⟨_, rfl⟩
        obtain ⟨z2, hz2⟩ : ∃ y : Int, y = z1 + y2 := ⟨_, rfl⟩
        have hz3 : (M : Int) = z2 + y3 := by omega
        have a5 : IntKind.i64.wrap (256 * (x1 : Int)) = y1 := by rw [IntKind.wrap_i64]; omega
        have a6 : IntKind.i64.wrap (65536 * (x2 : Int)) = y2 := by rw [IntKind.wrap_i64]; omega
        have a7 : IntKind.i64.wrap (16777216 * (x3 : Int)) = y3 := by rw [IntKind.wrap_i64]; omega
        have a8 : IntKind.i64.wrap ((x0 : Int) + y1) = z1 := by rw [IntKind.wrap_i64]; omega
        have a9 : IntKind.i64.wrap (z1 + y2) = z2 := by rw [IntKind.wrap_i64]; omega
        have a10 : IntKind.i64.wrap (z2 + y3) = (M : Int) := by rw [IntKind.wrap_i64]; omega
        have hMl : M ≤ 4294967295 := by omega
        clear hy1 hy2 hy3 hz1 hz2 hz3 hn8 k0 k1 k2 k3
        have HM := Lib.hid hM
        clear hM
        by_cases g5 : R.length - 8 < M
        · rw [if_neg (by omega)] at hfo
          have HN := hno hfo
          have e1 : decide ((R.length : Int) - 8 < (M : Int)) = true := decide_eq_true (by omega)
          clear hfo HP hst O T RR hno
          go_wp2
          go_quiet (fail)
          clear a1 a2 a3 a4 a5 a6 a7 a8 a9 a10
          go_wp2
          go_ret3
          rw [HN.out]
          exact ParsePost.none_ (New.trans b.out (new_drewN _ _))
        · rw [if_pos (by omega)] at hfo
          have e1 : decide ((R.length : Int) - 8 < (M : Int)) = false := decide_eq_false (by omega)
          obtain ⟨E8, hE⟩ : ∃ x, x = 8 + M := ⟨_, rfl⟩
          have i3 : (8 : Int) + (M : Int) = (E8 : Int) := by omega
          have hEl : E8 ≤ R.length := by omega
          have SL1 := slice_lh (P := Tryd.prog) sB zB (some ar) R.length cr 8 E8 (by omega) (by omega)
          have SL2 := slice_l (P := Tryd.prog) sB zB (some ar) R.length cr E8 hEl
          rw [show E8 - 8 = M by omega] at SL1
          have r1 := (RR.out.cut (k := 8) (cap := cr) (by omega) hcr).take (k := M) (by omega)
          have r2 := RR.out.cut (k := E8) (cap := cr) hEl hcr
          rw [Nat.mul_one, Nat.mul_one, nums_drop, nums_take] at r1
          rw [Nat.mul_one, nums_drop] at r2
          rw [show 8 + M = E8 from hE.symm] at hfo
          generalize (if cr = 8 then some ar else (some ar).map (·.add 8)) = A1 at *
          generalize (if cr = E8 then some ar else (some ar).map (·.add E8)) = A2 at *
          have hp : ((R.drop 8).take M).length = M := by rw [List.length_take, List.length_drop]; omega
          have hr : (R.drop E8).length = R.length - E8 := by rw [List.length_drop]
          have hr8 : ∀ x ∈ R.drop E8, x < 256 := fun x hx => R8.out x (List.mem_of_mem_drop hx)
          rw [← hr] at SL2 r2
          have hcr2 : (R.drop E8).length ≤ cr - E8 := by rw [hr]; omega
          have hRl2 : (R.drop E8).length ≤ 4294967295 := by rw [hr]; omega
          generalize R.drop E8 = r at *
          generalize (R.drop 8).take M = p at *
          subst hp
          have HP2 := Lib.hid (show R0 = (partsO (N - (k + 1)) r).map fun q => (bytesOf (D ++ [(A1, cr - 8, p)]) ++ q.1, q.2) by
            rw [HP.out, hst, hfo, Option.bind_some, bytesOf_snoc]
            show (Option.map _ (partsO (N - (k + 1)) r)).map _ = _
            generalize partsO (N - (k + 1)) r = z
            cases z <;> simp)
          have T2 : Hid (PartsIn w (D ++ [(A1, cr - 8, p)])) := Lib.hid (fun d hd => by
            rcases List.mem_append.1 hd with hd | hd
            · exact T.out d hd
            · obtain rfl := List.mem_singleton.1 hd
              exact ⟨r1, by show p.length ≤ cr - 8; omega, by show cr - 8 ≤ _; omega⟩)
          have RR2 := Lib.hid r2
          have HR8 := Lib.hid hr8
          have HD2 := Lib.hid (show (D ++ [(A1, cr - 8, p)] : List PartS).length = k + 1 by rw [List.length_append, HD.out]; rfl)
          have O1 := O.out
          have b1 := b.out
          have z1 := b1.size
          clear hfo HP hst O T RR hno r1 r2 hr8 hr R8 hE
          go_wp2
          go_quiet (fail)
          clear a1 a2 a3 a4 a5 a6 a7 a8 a9 a10
          have SL3 : ∀ W : World, (Instr.sliceAt 23 (.slice (some ar) R.length cr) (some (.int .i64 8)) (some (.int .i64 (E8 : Int))) none).run Tryd.prog W = .ok (.slice A1 p.length (cr - 8)) W := SL1
          clear SL1
          go_wp2_with ((refine wpList_push elR rfl (.tmp 112) (.tmp 117) rfl (W := w) (B := w.heap.size) (O1.drewN _) rfl rfl (New.trans b1 (new_drewN _ _)) (Nat.le_refl _) z1 rfl (by rw [recsP_len, HD.out]; omega) (by rw [recsP_len, HD.out]; simp only [maxLen]; omega) ?_)
                       intro A7 c7 w7 _ _ o7 g7 b7 _ _
                       have e7 : (recs partV D).length + 1 = k + 1 := by rw [recsP_len, HD.out]
                       rw [e7] at o7 ⊢
                       have O7 := Lib.hid (show Own w7 w.heap.size 23 (.slice A7 (k + 1) c7) (recs partV (D ++ [(A1, cr - 8, p)])) by rw [recsP_snoc]; exact o7)
                       have B7 := Lib.hid b7
                       clear o7 g7 b7 e7 O1 b1 z1)
          go_roundw
          case rel => exact ⟨k + 1, cr - E8, c7, A2, A7, r, _, by omega, by go_num, rfl, rfl, HD2, O7, T2, RR2, HR8, hcr2, by omega, hRl2, HP2, B7⟩
          case measure => simp [intOf]; omega
      · rw [if_neg (by omega)] at hfo
        have HN := hno hfo
        clear hfo HP hst O T RR hno hn8
        by_cases m4 : x4 = 0
        · subst m4
          replace c4 : wr.cell? ⟨ar.block, ar.off + 4, none⟩ = some (.int .u8 0) := c4
          by_cases m5 : x5 = 0
          · subst m5
            replace c5 : wr.cell? ⟨ar.block, ar.off + 5, none⟩ = some (.int .u8 0) := c5
            by_cases m6 : x6 = 0
            · subst m6
              replace c6 : wr.cell? ⟨ar.block, ar.off + 6, none⟩ = some (.int .u8 0) := c6
              have e7 : ((x7 : Int) == 0) = false := by rw [beq_eq_false_iff_ne]; omega
              have e8 : ((x7 : Int) != 0) = true := by rw [bne_iff_ne]; omega
              go_wp2
              go_ret3
              rw [HN.out]
              exact ParsePost.none_ b.out
            · have e7 : ((x6 : Int) == 0) = false := by rw [beq_eq_false_iff_ne]; omega
              have e8 : ((x6 : Int) != 0) = true := by rw [bne_iff_ne]; omega
              go_wp2
              go_ret3
              rw [HN.out]
              exact ParsePost.none_ b.out
          · have e7 : ((x5 : Int) == 0) = false := by rw [beq_eq_false_iff_ne]; omega
            have e8 : ((x5 : Int) != 0) = true := by rw [bne_iff_ne]; omega
            go_wp2
            go_ret3
            rw [HN.out]
            exact ParsePost.none_ b.out
        · have e7 : ((x4 : Int) == 0) = false := by rw [beq_eq_false_iff_ne]; omega
          have e8 : ((x4 : Int) != 0) = true := by rw [bne_iff_ne]; omega
          go_wp2
          go_ret3
          rw [HN.out]
          exact ParsePost.none_ b.out
    · obtain rfl : k = N := by omega
      have hp := HP.out
      rw [Nat.sub_self] at hp
      have hp2 : R0 = some (bytesOf D, R) := by rw [hp]; simp [partsO]
      have ho := HO.out
      rw [hp2, Option.bind_some] at ho
      by_cases hR : R = []
      · subst hR
        rw [if_pos rfl] at ho
        have HN := Lib.hid ho
        have row := O.out
        clear hp hp2 ho HP O RR
        go_wp2
        go_ret3
        rw [HN.out]
        exact ⟨A3, k, c2, D, rfl, ⟨row.reads, T.out.later b.out, row.cap.1⟩, rfl, b.out⟩
      · rw [if_neg hR] at ho
        have HN := Lib.hid ho
        have d3 : decide ((0 : Int) < (R.length : Int)) = true := decide_eq_true (by have := List.length_pos_iff.2 hR; omega)
        have d4 : 0 < R.length := List.length_pos_iff.2 hR
        clear hp hp2 ho HP O RR hR
        go_wp2
        go_ret3
        rw [HN.out]
        exact ParsePost.none_ b.out

end Go.Proofs.YtlfnhbnaegihfaaDoor
