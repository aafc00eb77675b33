/- Contract on ref01.Pad. -/
import Derived.Test.YtglghnnmfplmdaaDoorShaP

namespace Go.Hm
open Go Go.RowKit
theorem own_lit (w : World) (e : TypeId) (k : IntKind) (l : List Nat) (hl : l.length ≤ maxLen) : Own (w.alloc (.cells (nums k l).toArray e)) w.heap.size e (.slice (some ⟨w.heap.size, 0, none⟩) l.length l.length) (nums k l) := by
  have e1 : (nums k l).length = l.length := nums_length k l
  unfold Own
  rw [e1]
  exact ⟨by rw [e1]; simp, .inr ⟨w.heap.size, l.length, (nums k l).toArray, rfl, Nat.le_refl _, heap_alloc_new w _, Nat.le_refl _, hl, by simp [e1], by rw [List.toList_toArray, List.take_of_length_le (by rw [e1]; omega)]⟩⟩
def lenOf : Value → Nat
  | .slice _ n _ => n
  | _ => 0

end Go.Hm

namespace Go.Proofs.YtglghnnmfplmdaaDoor
open Go.RowKit Go.Hm
set_option maxHeartbeats 1000000 in
set_option maxRecDepth 100000 in
theorem rpad_any {w : World} (n : Int) : Calls Tryd.prog 16 #[.int .i64 n] w (BytesPost (padO n) w) := by
  by_cases hn : 0 ≤ n ∧ n ≤ 2147483647
  · obtain ⟨h0, h1⟩ := hn
    obtain ⟨N, rfl⟩ := Int.eq_ofNat_of_zero_le h0
    have hP : padO (N : Int) = padL N := by unfold padO; rw [if_pos ⟨h0, h1⟩, Int.toNat_natCast]
    rw [hP]
    have d1 : decide ((N : Int) < 0) = false := by simp
    have d2 : decide ((2147483647 : Int) < (N : Int)) = false := by simp; omega
    have TK := fun k (hk : k < 8) => bitsB_take (n := N) hk
    have PL : padL N = 128 :: (List.replicate (zerosN N) 0 ++ bitsB N) := rfl
    obtain ⟨z, hz⟩ : ∃ z, z = zerosN N := ⟨_, rfl⟩
    rw [← hz] at PL
    have hz64 : z < 64 := by rw [hz]; unfold zerosN; omega
    have ZZ := fun m (h : 1 ≤ m ∧ m ≤ 1 + z) => show (N + m + 8) % 64 = 0 ↔ m = 1 + z by rw [hz] at h ⊢; unfold zerosN at h ⊢; omega
    have HZZ := Lib.hid ZZ
    have HTK := Lib.hid TK
    have HPL := Lib.hid PL
    have o1 : Own (w.alloc (.cells #[.int .u8 128] 5)) w.heap.size 5 (.slice (some ⟨w.heap.size, 0, none⟩) 1 1) (nums .u8 [128]) :=
      own_lit w 5 .u8 [128] (by simp [maxLen])
    have b1 : New w (w.alloc (.cells #[.int .u8 128] 5)) := (Below.refl _ _).alloc (Nat.le_refl _) _
    have O1 := Lib.hid o1
    have B1 := Lib.hid b1
    clear hz TK PL ZZ hP o1 b1
    go_enter Tryd.func16, Tryd.ntmps16
    go_wp2
    go_loopw [3] (fun v wr => ∃ (m : Nat) (A : Option Addr) (c : Nat), 1 ≤ m ∧ m ≤ 1 + z ∧ v = .slice A m c ∧ Hid (Own wr w.heap.size 5 (.slice A m c) (nums .u8 (128 :: List.replicate (m - 1) 0))) ∧ Hid (New w wr)) (fun v _ => 1 + z - lenOf v)
    case atStart => exact ⟨1, _, _, by omega, by omega, rfl, O1, B1⟩
    case round =>
      clear O1 B1
      obtain ⟨m, A, c, hm1, hm2, rfl, O, b⟩ := hrel
      obtain ⟨r, hr⟩ : ∃ r, r = (N + m + 8) % 64 := ⟨_, rfl⟩
      have e1 : ((N : Int) + (m : Int) + 8) % 64 = (r : Int) := by omega
      have e2 : ((N : Int) + (m : Int) + 8).tmod 64 = (r : Int) := by rw [Int.tmod_eq_emod_of_nonneg (by omega)]; omega
      have hzz := HZZ.out m ⟨hm1, hm2⟩
      rw [← hr] at hzz
      by_cases hlt : m < 1 + z
      · have hr0 : r ≠ 0 := by omega
        have d3 : ((r : Int) != 0) = true := by simpa using hr0
        have o := O.out
        have bb := b.out
        have z0 := bb.size
        clear hzz hr hr0
        go_wp2_with (refine wpList_pushN elB rfl (.tmp 20) (.tmp 21) rfl (W := w) (B := w.heap.size) o rfl rfl 0 rfl bb (Nat.le_refl _) z0 (by omega) (by simp only [maxLen]; omega) ?_
                     intro A' c' w8 _ _ o' g' b' hsz hat)
        go_roundw
        case rel =>
          refine ⟨m + 1, A', c', by omega, by omega, rfl, Lib.hid ?_, Lib.hid b'⟩
          have e : (128 :: List.replicate (m - 1) 0 : List Nat) ++ [0] = 128 :: List.replicate (m + 1 - 1) 0 := by
            rw [List.cons_append, ← List.replicate_succ', show m - 1 + 1 = m + 1 - 1 by omega]
          rw [← e]
          exact o'
        case measure => simp [lenOf]; omega
      · have hm : m = 1 + z := by omega
        have hr0 : r = 0 := by omega
        have d3 : ((r : Int) != 0) = false := by simp [hr0]
        have o := O.out
        rw [hm, show 1 + z - 1 = z by omega] at o
        obtain ⟨b8, hb8⟩ : ∃ q, q = 8 * N := ⟨_, rfl⟩
        have e3 : 8 * (N : Int) = (b8 : Int) := by omega
        have e4 : b8 < 17179869184 := by omega
        have HB8 := Lib.hid hb8
        have O2 : Hid (Own wr w.heap.size 5 (.slice A m c) (nums .u8 (128 :: (List.replicate z 0 ++ (bitsB N).take 0)))) := Lib.hid (by rw [hm]; simpa using o)
        have HM := Lib.hid hm
        clear o O hzz hr hr0 hm hb8
        go_wp2
        clear d3 e1 e2
        go_loopw [3, 5] (fun v i wr => ∃ (j m : Nat) (A : Option Addr) (c : Nat) (kk : Int), j ≤ 8 ∧ Hid (m = 1 + z + j) ∧ i = .int .i64 kk ∧ Hid (kk = 56 - 8 * (j : Int)) ∧ v = .slice A m c ∧ Hid (Own wr w.heap.size 5 (.slice A m c) (nums .u8 (128 :: (List.replicate z 0 ++ (bitsB N).take j)))) ∧ Hid (New w wr)) (fun _ i _ => (8 + intOf i).toNat)
        case atStart => exact ⟨0, m, A, c, 56, by omega, HM, rfl, Lib.hid rfl, rfl, O2, b⟩
        case round =>
          clear O2 b HM
          obtain ⟨j, m, A, c, kk, hj, HM, rfl, HK, rfl, O, b⟩ := hrel
          by_cases hlt : j < 8
          · obtain ⟨sh, hsh⟩ : ∃ q, q = 56 - 8 * j := ⟨_, rfl⟩
            obtain ⟨x, hx⟩ : ∃ x, x = bitB N j := ⟨_, rfl⟩
            have hkk : kk = (sh : Int) := by rw [HK.out]; omega
            have v1 : (b8 : Int) / 2 ^ sh % 256 = (x : Int) := by rw [hx, hsh, HB8.out]; unfold bitB; simp
            have tk := HTK.out j hlt
            rw [← hx] at tk
            have HTK2 := Lib.hid tk
            have o := O.out
            have bb := b.out
            have z0 := bb.size
            have hm2 : m < 80 := by rw [HM.out]; omega
            have HS := Lib.hid hsh
            have hs2 : sh ≤ 56 := by omega
            subst hkk
            have d4 : decide (0 ≤ (sh : Int)) = true := by simp
            clear hx tk hsh O b
            go_wp2_with (refine wpList_pushN elB rfl (.tmp 30) (.tmp 36) rfl (W := w) (B := w.heap.size) o rfl rfl x rfl bb (Nat.le_refl _) z0 (by omega) (by simp only [maxLen]; omega) ?_
                         intro A' c' w8 _ _ o' g' b' hsz hat)
            go_roundw
            case rel =>
              refine ⟨j + 1, m + 1, A', c', (sh : Int) - 8, by omega, Lib.hid (by rw [HM.out]; omega), rfl, Lib.hid (by rw [HK.out]; omega), rfl, Lib.hid ?_, Lib.hid b'⟩
              rw [HTK2.out, ← List.append_assoc, ← List.cons_append]
              exact o'
            case measure => simp [intOf]; omega
          · have hj8 : j = 8 := by omega
            have hkk : kk = -8 := by rw [HK.out, hj8]; omega
            subst hkk
            have o := O.out
            rw [hj8, List.take_of_length_le (by simp [bitsB]), ← HPL.out] at o
            have O3 := Lib.hid o
            clear o O hj8 HK
            go_wp2
            go_ret
            exact ⟨_, _, _, rfl, O3.out, b.out⟩
  · have hP : padO n = [] := by unfold padO; rw [if_neg hn]
    rw [hP]
    by_cases h0 : n < 0
    · have d1 : decide (n < 0) = true := by simpa using h0
      clear hn hP
      go_enter Tryd.func16, Tryd.ntmps16
      go_wp2
      go_ret
      exact ⟨_, _, _, rfl, Own.nil_, New.refl _⟩
    · have d1 : decide (n < 0) = false := by simpa using h0
      have d2 : decide (2147483647 < n) = true := by simp; omega
      clear hn hP
      go_enter Tryd.func16, Tryd.ntmps16
      go_wp2
      go_ret
      exact ⟨_, _, _, rfl, Own.nil_, New.refl _⟩

end Go.Proofs.YtglghnnmfplmdaaDoor
