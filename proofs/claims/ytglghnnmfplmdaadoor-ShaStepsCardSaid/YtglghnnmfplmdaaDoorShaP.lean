/- Contracts on First and Pad. -/
import Derived.Test.YtglghnnmfplmdaaDoorShaR

namespace Go.Hm
open Go Go.RowKit
theorem padL_set {n k : Nat} (hk : k < 8) (x : Nat) : (128 :: (List.replicate (zerosN n) 0 ++ ((bitsB n).take k ++ List.replicate (8 - k) 0))).set (1 + zerosN n + k) x = 128 :: (List.replicate (zerosN n) 0 ++ ((bitsB n).take k ++ (x :: List.replicate (8 - (k + 1)) 0))) := by
  have h1 : ((bitsB n).take k).length = k := by simp [bitsB]; omega
  rw [show 1 + zerosN n + k = (zerosN n + k) + 1 by omega, List.set_cons_succ, List.set_append_right _ _ (by simp), List.set_append_right _ _ (by rw [h1]; simp), h1, List.length_replicate, show zerosN n + k - zerosN n - k = 0 by omega, show 8 - k = (8 - (k + 1)) + 1 by omega, List.replicate_succ, List.set_cons_zero]
theorem bitsB_take {n k : Nat} (hk : k < 8) : (bitsB n).take (k + 1) = (bitsB n).take k ++ [bitB n k] := by
  rw [take_snoc _ k 0 (by simp [bitsB]; exact hk)]
  congr 1
  simp [bitsB, hk]

end Go.Hm

namespace Go.Proofs.YtglghnnmfplmdaaDoor
open Go.RowKit Go.Hm
/-- Bytes, a row of the call's own. -/
def BytesPost (l : List Nat) (w : World) (e : Ending) (w' : World) : Prop := ∃ A n c, e = .returned (.slice A n c) ∧ Own w' w.heap.size 5 (.slice A n c) (nums .u8 l) ∧ New w w'
set_option maxRecDepth 100000 in
theorem first_any {w : World} : Calls Tryd.prog 13 #[] w (NewPost (.agg (cellsS firstS)) w) := by
  have b0 : New w (w.alloc (.cells (cellsS firstS) 29)) := (Below.refl _ _).alloc (Nat.le_refl _) _
  have hsz : (Tryd.prog.info? 29).map (·.size) = some (cellsS firstS).size := by kernel_rfl
  have hR := row_of_blk (Blk.new w 29 (cellsS firstS))
  have H := Lib.hid (And.intro hsz hR)
  clear hsz hR
  go_enter Tryd.func13, Tryd.ntmps13
  go_wp2
  exact bodyPost_ret (results_cell_row rfl _ _ w.heap.size _ (cellsS firstS) (0, 0) _ rfl H.out.2 (show Tryd.prog.underlying 29 = some (.array 8 28) by kernel_rfl) rfl H.out.1) rfl ⟨rfl, b0⟩
set_option maxRecDepth 100000 in
theorem rfirst_any {w : World} : Calls Tryd.prog 14 #[] w (NewPost (.agg (cellsS firstS)) w) := by
  have b0 : New w (w.alloc (.cells (cellsS firstS) 29)) := (Below.refl _ _).alloc (Nat.le_refl _) _
  have hsz : (Tryd.prog.info? 29).map (·.size) = some (cellsS firstS).size := by kernel_rfl
  have hR := row_of_blk (Blk.new w 29 (cellsS firstS))
  have H := Lib.hid (And.intro hsz hR)
  clear hsz hR
  go_enter Tryd.func14, Tryd.ntmps14
  go_wp2
  exact bodyPost_ret (results_cell_row rfl _ _ w.heap.size _ (cellsS firstS) (0, 0) _ rfl H.out.2 (show Tryd.prog.underlying 29 = some (.array 8 28) by kernel_rfl) rfl H.out.1) rfl ⟨rfl, b0⟩
set_option maxHeartbeats 1000000 in
set_option maxRecDepth 100000 in
theorem pad_any {w : World} (n : Int) : Calls Tryd.prog 15 #[.int .i64 n] w (BytesPost (padO n) w) := by
  by_cases hn : 0 ≤ n ∧ n ≤ 2147483647
  · obtain ⟨h0, h1⟩ := hn
    obtain ⟨N, rfl⟩ := Int.eq_ofNat_of_zero_le h0
    have hP : padO (N : Int) = padL N := by unfold padO; rw [if_pos ⟨h0, h1⟩, Int.toNat_natCast]
    rw [hP]
    have d1 : decide ((N : Int) < 0) = false := by simp
    have d2 : decide ((2147483647 : Int) < (N : Int)) = false := by simp; omega
    obtain ⟨r, hr⟩ : ∃ r, r = (N + 8) % 64 := ⟨_, rfl⟩
    have hzz : zerosN N = 63 - r := by unfold zerosN; omega
    have hr64 : r < 64 := by omega
    have e3 : ((N : Int) + 8) % 64 = (r : Int) := by omega
    have e1 : ((N : Int) + 8).tmod 64 = (r : Int) := by rw [Int.tmod_eq_emod_of_nonneg (by omega)]; omega
    have HL := Lib.hid (padL_len N)
    have ST := fun k (hk : k < 8) (x : Nat) => padL_set (n := N) hk x
    have TK := fun k (hk : k < 8) => bitsB_take (n := N) hk
    have PL : padL N = 128 :: (List.replicate (zerosN N) 0 ++ bitsB N) := rfl
    obtain ⟨z, hz⟩ : ∃ z, z = zerosN N := ⟨_, rfl⟩
    rw [← hz] at ST PL hzz
    have e2 : (63 : Int) - (r : Int) = (z : Int) := by omega
    have hz64 : z < 64 := by omega
    have HST := Lib.hid ST
    have HTK := Lib.hid TK
    have HPL := Lib.hid PL
    clear hr hzz hz ST TK PL hP
    go_enter Tryd.func15, Tryd.ntmps15
    go_wp2_with (refine wpList_mk elB rfl _ _ rfl (W := w) (B := w.heap.size) (1 + z + 8) (1 + z + 8) rfl rfl (by omega) (by omega) (Nat.le_refl _) (Below.refl _ _) (Nat.le_refl _) rfl (by omega) (by simp only [maxLen]; omega) ?_; intro w1 o1 g1 b1 z1; have o2 : Own w1 w.heap.size 5 (.slice (some ⟨w.heap.size, 0, none⟩) (1 + z + 8) (1 + z + 8)) (nums .u8 (List.replicate (1 + z + 8) 0)) := by (rw [nums_replicate]; exact o1)
                 obtain ⟨_, _, c0, f0, st⟩ := o2.num0 (i := 0) (by omega))
    have o3 := st 128
    rw [show (List.replicate (1 + z + 8) 0).set 0 128 = 128 :: (List.replicate z 0 ++ ((bitsB N).take 0 ++ List.replicate (8 - 0) 0)) by
      rw [show 1 + z + 8 = (z + 8) + 1 by omega, List.replicate_succ, List.set_cons_zero, List.replicate_append_replicate.symm]; rfl] at o3
    have b3 := b1.setCell (p := ⟨w.heap.size, 0, none⟩) (Nat.le_refl _) (.int .u8 ((128 : Nat) : Int))
    have O3 := Lib.hid o3
    have B3 := Lib.hid b3
    clear c0 f0 st o1 o2 o3 b3 g1 b1
    go_loopw [22] (fun i wr => ∃ k : Nat, k ≤ 8 ∧ i = .int .i64 (k : Int) ∧ Hid (Own wr w.heap.size 5 (.slice (some ⟨w.heap.size, 0, none⟩) (1 + z + 8) (1 + z + 8)) (nums .u8 (128 :: (List.replicate z 0 ++ ((bitsB N).take k ++ List.replicate (8 - k) 0))))) ∧ Hid (New w wr)) (fun i _ => 8 - (intOf i).toNat)
    case atStart => exact ⟨0, by omega, rfl, O3, B3⟩
    case round =>
      clear O3 B3
      obtain ⟨k, hk, rfl, O, b⟩ := hrel
      by_cases hlt : k < 8
      · obtain ⟨q, hq⟩ : ∃ q, q = 1 + z + k := ⟨_, rfl⟩
        obtain ⟨sh, hsh⟩ : ∃ q, q = 56 - 8 * k := ⟨_, rfl⟩
        obtain ⟨x, hx⟩ : ∃ x, x = bitB N k := ⟨_, rfl⟩
        obtain ⟨_, hltb, c0, f0, st⟩ := O.out.num0 (i := q) (by omega)
        have i1 : (1 : Int) + (z : Int) + (k : Int) = (q : Int) := by omega
        have i2 : (56 : Int) - 8 * (k : Int) = (sh : Int) := by omega
        have v1 : 8 * (N : Int) / 2 ^ sh % 256 = (x : Int) := by rw [hx, hsh]; unfold bitB; simp
        have o3 := st x
        rw [hx, hq, HST.out k hlt, ← hx, ← hq] at o3
        have tk := HTK.out k hlt
        rw [← hx] at tk
        rw [show (bitsB N).take k ++ (x :: List.replicate (8 - (k + 1)) 0) = (bitsB N).take (k + 1) ++ List.replicate (8 - (k + 1)) 0 by rw [tk]; simp] at o3
        have b3 := b.out.setCell (p := ⟨w.heap.size, q, none⟩) (Nat.le_refl _) (.int .u8 (x : Int))
        have O3 := Lib.hid o3
        have B3 := Lib.hid b3
        have hq2 : q < 1 + z + 8 := by omega
        clear hq hsh hx st o3 b3 tk O b
        go_wp2
        go_roundw
        case rel => exact ⟨k + 1, by omega, by go_num, O3, B3⟩
        case measure => simp [intOf]; omega
      · obtain rfl : k = 8 := by omega
        have o := O.out
        rw [List.take_of_length_le (by simp [bitsB]), show List.replicate (8 - 8) 0 = ([] : List Nat) from rfl, List.append_nil, ← HPL.out] at o
        have O3 := Lib.hid o
        clear o O
        go_wp2
        go_ret
        exact ⟨_, _, _, rfl, O3.out, b.out⟩
  · have hP : padO n = [] := by unfold padO; rw [if_neg hn]
    rw [hP]
    by_cases h0 : n < 0
    · have d1 : decide (n < 0) = true := by simpa using h0
      clear hn hP
      go_enter Tryd.func15, Tryd.ntmps15
      go_wp2
      go_ret
      exact ⟨_, _, _, rfl, Own.nil_, New.refl _⟩
    · have d1 : decide (n < 0) = false := by simpa using h0
      have d2 : decide (2147483647 < n) = true := by simp; omega
      clear hn hP
      go_enter Tryd.func15, Tryd.ntmps15
      go_wp2
      go_ret
      exact ⟨_, _, _, rfl, Own.nil_, New.refl _⟩

end Go.Proofs.YtglghnnmfplmdaaDoor
