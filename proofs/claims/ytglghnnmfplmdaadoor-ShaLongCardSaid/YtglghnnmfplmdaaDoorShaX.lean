/- Contract on ref01.Sum. -/
import Derived.Test.YtglghnnmfplmdaaDoorShaU

namespace Go.Hm
open Go Go.RowKit
def padN (l : List Nat) : List Nat := l ++ List.replicate (64 - l.length) 0
theorem padN_len {l : List Nat} (h : l.length ≤ 64) : (padN l).length = 64 := by simp [padN]; omega
theorem padN_set {l : List Nat} (h : l.length < 64) (x : Nat) : (padN l).set l.length x = padN (l ++ [x]) := by
  unfold padN
  rw [List.set_append_right _ _ (Nat.le_refl _), Nat.sub_self, show 64 - l.length = (64 - (l ++ [x]).length) + 1 by simp; omega, List.replicate_succ, List.set_cons_zero]
  simp
theorem padN_full {l : List Nat} (h : l.length = 64) : padN l = l := by simp [padN, h]
theorem blk_setN {w : World} {g : Nat} {ty : TypeId} {l : List Nat} {k : IntKind} {i : Nat} (h : Blk w g ty (nums k l).toArray) (x : Nat) : Blk (w.setCell ⟨g, i, none⟩ (.int k (x : Int))) g ty (nums k (l.set i x)).toArray := by
  have := h.set_ i (.int k (x : Int))
  simpa [nums, List.map_set] using this
theorem digB_at (s : S8) (k i : Nat) (hi : i < 4) : digB s (4 * k + i) = (wordsL s).getD k 0 / 2 ^ (24 - i * 8) % 256 := by
  unfold digB
  rw [show (4 * k + i) / 4 = k by omega, show (4 * k + i) % 4 = i by omega]

end Go.Hm

namespace Go.Proofs.YtglghnnmfplmdaaDoor
open Go.RowKit Go.Hm
theorem nums_all (k : IntKind) (l : List Nat) : (nums k l).toArray.all (·.oneCell') = true := by
  rw [List.all_toArray, List.all_eq_true]
  exact nums_oneCell k l
set_option maxHeartbeats 2000000 in
set_option maxRecDepth 100000 in
theorem rsum_any {w : World} {A : Option Addr} {n c : Nat} {l : List Nat} (h : Reads w w.heap.size 1 A n (nums .u8 l)) (h8 : ∀ x ∈ l, x < 256) (hn : n ≤ 1000000) :
    Calls Tryd.prog 10 #[.slice A n c] w (NewPost (.agg (ints .u8 (sumI l)).toArray) w) := by
  obtain rfl := h.len
  have HR := Lib.hid h
  have HM8 := Lib.hid (msgL_lt h8)
  have HML := Lib.hid (msgL_len l)
  have HMM := Lib.hid (msgL_mod l)
  have hPO : padO (l.length : Int) = padL l.length := by unfold padO; rw [if_pos (by omega), Int.toNat_natCast]
  have hpl : (padL l.length).length ≤ 72 := by rw [padL_len]; unfold zerosN; omega
  have PD := Lib.hid (fun W : World => rpad_any (w := W) (l.length : Int))
  rw [hPO] at PD
  have HPL2 := Lib.hid hpl
  clear h h8 hPO hpl
  obtain ⟨W0, hW0⟩ : ∃ W, W = (w.alloc (.cells (ints .u8 zero32).toArray 25)).alloc (.cells #[] 5) := ⟨_, rfl⟩
  have e1 : (w.alloc (.cells (ints .u8 zero32).toArray 25)).heap.size = w.heap.size + 1 := by simp
  have b0 : New w W0 := by rw [hW0]; exact ((Below.refl _ _).alloc (Nat.le_refl _) _).alloc (by simp) _
  have D0 : Blk W0 w.heap.size 25 (ints .u8 zero32).toArray := by rw [hW0]; exact (Blk.new _ _ _).alloc _
  have O0 : Own W0 w.heap.size 5 (.slice (some ⟨w.heap.size + 1, 0, none⟩) 0 0) (nums .u8 []) := by
    rw [hW0, ← e1]
    exact (Own.empty _ _).base_le (by simp)
  have R0 := Lib.hid (Reads.later HR.out b0)
  have HD0 := Lib.hid D0
  have HO0 := Lib.hid O0
  have z0 := b0.size
  have HB0 := Lib.hid b0
  have HW0 := Lib.hid (show W0 = (w.alloc (.cells #[.int .u8 0, .int .u8 0, .int .u8 0, .int .u8 0, .int .u8 0, .int .u8 0, .int .u8 0, .int .u8 0, .int .u8 0, .int .u8 0, .int .u8 0, .int .u8 0, .int .u8 0, .int .u8 0, .int .u8 0, .int .u8 0, .int .u8 0, .int .u8 0, .int .u8 0, .int .u8 0, .int .u8 0, .int .u8 0, .int .u8 0, .int .u8 0, .int .u8 0, .int .u8 0, .int .u8 0, .int .u8 0, .int .u8 0, .int .u8 0, .int .u8 0, .int .u8 0] 25)).alloc (.cells #[] 5) from hW0)
  have O0' := HO0.out
  have R0' := R0.out
  have b0' := HB0.out
  rw [HW0.out] at O0' R0' b0' z0
  clear hW0 e1 D0 O0 b0
  go_enter Tryd.func10, Tryd.ntmps10
  go_wp2_with (refine wpList_pushesN elB rfl (.tmp 11) (.tmp 12) rfl (W := w) (B := w.heap.size) (base := w.heap.size) O0' R0' rfl rfl b0' (Nat.le_refl _) z0 (by omega) (by simp only [maxLen]; omega) ?_
               intro A8 c8 w8 _ _ o8 g8 b8 _)
  rw [List.nil_append, Nat.zero_add] at o8
  rw [← HW0.out] at g8
  have D8 := Lib.hid (HD0.out.push HO0.out g8 (by decide))
  have O8 := Lib.hid o8
  have B8 := Lib.hid b8
  clear O0' R0' b0' z0 g8 o8 b8 HO0 HD0 HB0 R0 HW0
  refine (PD.out _).mono ?_
  rintro e w9 ⟨A9, n9, c9, rfl, o9, b9⟩
  have r9 := o9.reads
  obtain rfl := r9.len
  have o89 := O8.out.later b9
  have D9 := Lib.hid (D8.out.below b9 D8.out.lt)
  have b09 := New.trans B8.out b9
  have z9 := b09.size
  have hsum : l.length + (padL l.length).length ≤ 1000100 := by have := HPL2.out; omega
  clear o9 PD O8 B8 D8 b9
  go_wp2_with (refine wpList_pushesN elB rfl (.tmp 13) (.tmp 16) rfl (W := w) (B := w.heap.size) (base := w.heap.size) o89 r9 rfl rfl b09 (Nat.le_refl _) z9 (by omega) (by simp only [maxLen]; omega) ?_
               intro A10 c10 w10 hc10 _ o10 g10 b10 _)
  have D10 := Lib.hid (D9.out.push o89 g10 (by decide))
  rw [show l ++ padL l.length = msgL l from rfl] at o10
  have T10 := Lib.hid (TR.of_own o10)
  have B10 := Lib.hid b10
  have HM := Lib.hid (show l.length + (padL l.length).length = (msgL l).length from HML.out.symm)
  generalize l.length + (padL l.length).length = m at *
  clear o89 r9 g10 b09 b10 z9 o10 D9 HPL2
  refine (rfirst_any).mono ?_
  rintro e w11 ⟨rfl, b11⟩
  have T11 := Lib.hid (T10.out.below b11)
  have D11 := Lib.hid (D10.out.below b11 D10.out.lt)
  have B11 := Lib.hid (New.trans B10.out b11)
  clear b11 T10 D10 B10
  go_wp2_with (first | (refine wpList_store_row rfl 29 (.tmp 4) (.tmp 18) rfl w11.heap.size (cellsS firstS) rfl rfl _ _ (heap_alloc_new _ _) (i8w _) rfl (cellsS_one _) ?_; rw [alloc_setRow]) | fail)
  obtain ⟨W2, hW2⟩ : ∃ W, W = w11.alloc (.cells (cellsS firstS) 29) := ⟨_, rfl⟩
  have c2 : New w11 W2 := by rw [hW2]; exact (Below.refl _ _).alloc (Nat.le_refl _) _
  have G2 : Blk W2 w11.heap.size 29 (cellsS (foldK (msgL l) 0)) := by rw [hW2]; exact Blk.new _ _ _
  have D2 := Lib.hid (D11.out.below c2 D11.out.lt)
  have B2 := Lib.hid (New.trans B11.out c2)
  have T2 := Lib.hid (T11.out.below c2)
  have hG : w.heap.size < w11.heap.size := D11.out.lt
  have HG2 := Lib.hid G2
  rw [← hW2]
  generalize w11.heap.size = G at *
  clear hW2 c2 G2 T11 D11 B11
  go_loopw [5] (fun i wr => ∃ k a : Nat, Hid (a = 64 * k) ∧ a ≤ m ∧ i = .int .i64 (a : Int) ∧ Hid (TR wr 5 A10 m (nums .u8 (msgL l))) ∧ Hid (Blk wr G 29 (cellsS (foldK (msgL l) k))) ∧ Hid (Blk wr w.heap.size 25 (ints .u8 zero32).toArray) ∧ Hid (New w wr)) (fun i _ => m - (intOf i).toNat)
  case atStart => exact ⟨0, 0, Lib.hid rfl, by omega, rfl, T2, HG2, D2, B2⟩
  case round =>
    clear T2 HG2 D2 B2
    obtain ⟨k, a, HA, ha, rfl, T, S, D, b⟩ := hrel
    by_cases hlt : a + 64 ≤ m
    · have hltI : (a : Int) + 64 ≤ (m : Int) := by omega
      have d1 : decide ((a : Int) + 64 ≤ (m : Int)) = true := by simpa using hltI
      have hE0 : G < wr.heap.size := S.out.lt
      obtain ⟨W5, hW5⟩ : ∃ W, W = wr.alloc (.cells (nums .u8 (padN (((msgL l).drop a).take 0))).toArray 30) := ⟨_, rfl⟩
      have c5 : New wr W5 := by rw [hW5]; exact (Below.refl _ _).alloc (Nat.le_refl _) _
      have E5 : Blk W5 wr.heap.size 30 (nums .u8 (padN (((msgL l).drop a).take 0))).toArray := by rw [hW5]; exact Blk.new _ _ _
      have HE5 := Lib.hid E5
      have S5 := Lib.hid (S.out.below c5 S.out.lt)
      have D5 := Lib.hid (D.out.below c5 D.out.lt)
      have T5 := Lib.hid (T.out.below c5)
      have B5 := Lib.hid (New.trans b.out c5)
      have HW5 := Lib.hid (show W5 = wr.alloc (.cells #[.int .u8 0, .int .u8 0, .int .u8 0, .int .u8 0, .int .u8 0, .int .u8 0, .int .u8 0, .int .u8 0, .int .u8 0, .int .u8 0, .int .u8 0, .int .u8 0, .int .u8 0, .int .u8 0, .int .u8 0, .int .u8 0, .int .u8 0, .int .u8 0, .int .u8 0, .int .u8 0, .int .u8 0, .int .u8 0, .int .u8 0, .int .u8 0, .int .u8 0, .int .u8 0, .int .u8 0, .int .u8 0, .int .u8 0, .int .u8 0, .int .u8 0, .int .u8 0, .int .u8 0, .int .u8 0, .int .u8 0, .int .u8 0, .int .u8 0, .int .u8 0, .int .u8 0, .int .u8 0, .int .u8 0, .int .u8 0, .int .u8 0, .int .u8 0, .int .u8 0, .int .u8 0, .int .u8 0, .int .u8 0, .int .u8 0, .int .u8 0, .int .u8 0, .int .u8 0, .int .u8 0, .int .u8 0, .int .u8 0, .int .u8 0, .int .u8 0, .int .u8 0, .int .u8 0, .int .u8 0, .int .u8 0, .int .u8 0, .int .u8 0, .int .u8 0] 30) from hW5)
      clear hW5 c5 E5 T S D b
      go_wp2
      rw [← HW5.out]
      clear HW5
      generalize wr.heap.size = E at *
      go_loopw [7] (fun i wr => ∃ j : Nat, j ≤ 64 ∧ i = .int .i64 (j : Int) ∧ Hid (Blk wr E 30 (nums .u8 (padN (((msgL l).drop a).take j))).toArray) ∧ Hid (TR wr 5 A10 m (nums .u8 (msgL l))) ∧ Hid (Blk wr G 29 (cellsS (foldK (msgL l) k))) ∧ Hid (Blk wr w.heap.size 25 (ints .u8 zero32).toArray) ∧ Hid (New w wr)) (fun i _ => 64 - (intOf i).toNat)
      case atStart => exact ⟨0, by omega, rfl, HE5, T5, S5, D5, B5⟩
      case round =>
        clear HE5 T5 S5 D5 B5
        obtain ⟨j, hj, rfl, X, T, S, D, b⟩ := hrel
        by_cases hlj : j < 64
        · obtain ⟨q, hq⟩ : ∃ x, x = a + j := ⟨_, rfl⟩
          have i1 : (a : Int) + (j : Int) = (q : Int) := by omega
          have hqm : q < m := by omega
          obtain ⟨ad, hA10, _, c1⟩ := T.out.1.num (i := q) hqm
          have htk : (((msgL l).drop a).take j).length = j := by rw [List.length_take, List.length_drop, ← HM.out]; omega
          have c2 := blk_cellN (i := j) X.out (by rw [padN_len (by omega)]; exact hlj)
          have f2 := X.out.frozen j
          have hset := padN_set (l := ((msgL l).drop a).take j) (by omega) ((msgL l).getD q 0)
          have hsn : ((msgL l).drop a).take (j + 1) = ((msgL l).drop a).take j ++ [(msgL l).getD q 0] := by
            rw [take_snoc _ j 0 (by rw [List.length_drop, ← HM.out]; omega)]
            congr 2
            rw [List.getD_eq_getElem?_getD, List.getElem?_drop, ← hq, ← List.getD_eq_getElem?_getD]
          rw [htk, ← hsn] at hset
          have t3 := blk_setN X.out (i := j) ((msgL l).getD q 0)
          rw [hset] at t3
          have hF : Far E wr (wr.setCell ⟨E, j, none⟩ (.int .u8 (((msgL l).getD q 0 : Nat) : Int))) := far_set _ _
          have X3 := Lib.hid t3
          have T3 := Lib.hid (T.out.keep hF X.out (by decide))
          have S3 := Lib.hid (S.out.grown hF (by simp; omega))
          have D3 := Lib.hid (D.out.grown hF (by simp; omega))
          have B3 := Lib.hid (New.far b.out hF (by omega))
          generalize (msgL l).getD q 0 = x at *
          have HA10 := Lib.hid hA10
          have j2 : (j : Int) < 64 := by omega
          clear hq htk hset hsn t3 hF T S D b X hA10
          rw [HA10.out]
          go_wp2
          rw [← HA10.out]
          go_roundw
          case rel => exact ⟨j + 1, by omega, by go_num, X3, T3, S3, D3, B3⟩
          case measure => simp [intOf]; omega
        · have hj64 : j = 64 := by omega
          have hb : (blkN (msgL l) k).length = 64 := blkN_len (by rw [← HA.out, ← HM.out]; omega)
          have hx : padN (((msgL l).drop a).take j) = blkN (msgL l) k := by
            rw [hj64, HA.out]
            exact padN_full hb
          have x1 := X.out
          rw [hx] at x1
          have X1 := Lib.hid x1
          have HBL := Lib.hid hb
          have hst : compS (foldK (msgL l) k) (blkN (msgL l) k) = foldK (msgL l) (k + 1) := rfl
          have CP := Lib.hid (fun (W : World) => rcompress_any (w := W) (foldK (msgL l) k) (foldK_ok _ _) (blkN (msgL l) k) hb (blkN_lt HM8.out))
          rw [hst] at CP
          have hi := i64b hb
          have HI := Lib.hid (show (Tryd.prog.info? 30).map (·.size) = some (nums .u8 (blkN (msgL l) k)).toArray.size by rw [List.size_toArray]; exact hi)
          clear hj64 hb hx x1 X hst hi
          go_wp2_with (first
            | (refine wpList_load_row rfl 29 (.tmp 4) rfl G rfl _ (cellsS (foldK (msgL l) k)) _ _ (row_of_blk S.out) u32arr rfl (i8w _) ?_)
            | (refine wpList_load_row rfl 30 (.tmp 6) rfl E rfl _ (nums .u8 (blkN (msgL l) k)).toArray _ _ (row_of_blk X1.out) u8arr rfl HI.out ?_))
          (with_reducible refine (CP.out _).mono ?_)
          rintro e9 w9 ⟨rfl, c9⟩
          have S9 := S.out.below c9 S.out.lt
          have D9 := D.out.below c9 D.out.lt
          have T9 := T.out.below c9
          have b9 := New.trans b.out c9
          have hF := far_setRow (g := G) w9 (cellsS (foldK (msgL l) (k + 1)))
          have S10 := Lib.hid (blk_setRow S9 (cellsS (foldK (msgL l) (k + 1))))
          have D10 := Lib.hid (D9.grown hF (by simp; omega))
          have T10 := Lib.hid (T9.keep hF S9 (by decide))
          have B10 := Lib.hid (New.far b9 hF (by omega))
          have HS9 := Lib.hid S9
          obtain ⟨a2, ha2⟩ : ∃ x, x = a + 64 := ⟨_, rfl⟩
          have HA3 := Lib.hid (show a2 = 64 * (k + 1) by rw [ha2, HA.out]; omega)
          have e4 : (a : Int) + 64 = (a2 : Int) := by omega
          have hle : a2 ≤ m := by omega
          clear S9 D9 T9 b9 hF c9 CP X1 S D T b HI ha2
          go_wp2_with (refine wpList_store_row rfl 29 (.tmp 4) (.tmp 40) rfl G (cellsS (foldK (msgL l) (k + 1))) rfl rfl _ _ (row_of_blk HS9.out) (i8w _) rfl (cellsS_one _) ?_)
          go_roundw
          case rel => exact ⟨k + 1, a2, HA3, hle, rfl, T10, S10, D10, B10⟩
          case measure => simp [intOf]; omega
    · have hltI : ¬ (a : Int) + 64 ≤ (m : Int) := by omega
      have d1 : decide ((a : Int) + 64 ≤ (m : Int)) = false := by simpa using hltI
      have hk : foldK (msgL l) k = sumS l := by
        unfold sumS
        congr 1
        have := HM.out
        have := HA.out
        have := HMM.out
        omega
      rw [hk] at S
      obtain ⟨W5, hW5⟩ : ∃ W, W = wr.alloc (.cells (ints .u8 (pad32 ((digI (sumS l)).take 0))).toArray 25) := ⟨_, rfl⟩
      have c5 : New wr W5 := by rw [hW5]; exact (Below.refl _ _).alloc (Nat.le_refl _) _
      have E5 : Blk W5 wr.heap.size 25 (ints .u8 (pad32 ((digI (sumS l)).take 0))).toArray := by rw [hW5]; exact Blk.new _ _ _
      have hE0 : G < wr.heap.size := S.out.lt
      have HE5 := Lib.hid E5
      have S5 := Lib.hid (S.out.below c5 S.out.lt)
      have D5 := Lib.hid (D.out.below c5 D.out.lt)
      have B5 := Lib.hid (New.trans b.out c5)
      have HW5 := Lib.hid (show W5 = wr.alloc (.cells #[.int .u8 0, .int .u8 0, .int .u8 0, .int .u8 0, .int .u8 0, .int .u8 0, .int .u8 0, .int .u8 0, .int .u8 0, .int .u8 0, .int .u8 0, .int .u8 0, .int .u8 0, .int .u8 0, .int .u8 0, .int .u8 0, .int .u8 0, .int .u8 0, .int .u8 0, .int .u8 0, .int .u8 0, .int .u8 0, .int .u8 0, .int .u8 0, .int .u8 0, .int .u8 0, .int .u8 0, .int .u8 0, .int .u8 0, .int .u8 0, .int .u8 0, .int .u8 0] 25) from hW5)
      clear hk hW5 c5 E5 T S D b HA hlt hltI
      go_wp2
      rw [← HW5.out]
      clear HW5 d1
      generalize wr.heap.size = E at *
      go_loopw [9] (fun i wr => ∃ k : Nat, k ≤ 8 ∧ i = .int .i64 (k : Int) ∧ Hid (Blk wr E 25 (ints .u8 (pad32 ((digI (sumS l)).take (4 * k)))).toArray) ∧ Hid (Blk wr G 29 (cellsS (sumS l))) ∧ Hid (Blk wr w.heap.size 25 (ints .u8 zero32).toArray) ∧ Hid (New w wr)) (fun i _ => 8 - (intOf i).toNat)
      case atStart => exact ⟨0, by omega, rfl, HE5, S5, D5, B5⟩
      case round =>
        clear HE5 S5 D5 B5
        obtain ⟨k, hk, rfl, T, S, D, b⟩ := hrel
        by_cases hlk : k < 8
        · have d2 : decide ((k : Int) < 8) = true := by simp; omega
          go_wp2
          go_loopw [10] (fun i wr => ∃ j : Nat, j ≤ 4 ∧ i = .int .i64 (j : Int) ∧ Hid (Blk wr E 25 (ints .u8 (pad32 ((digI (sumS l)).take (4 * k + j)))).toArray) ∧ Hid (Blk wr G 29 (cellsS (sumS l))) ∧ Hid (Blk wr w.heap.size 25 (ints .u8 zero32).toArray) ∧ Hid (New w wr)) (fun i _ => 4 - (intOf i).toNat)
          case atStart => exact ⟨0, by omega, rfl, T, S, D, b⟩
          case round =>
            clear T S D b
            obtain ⟨j, hj, rfl, T, S, D, b⟩ := hrel
            by_cases hlj : j < 4
            · obtain ⟨q, hq⟩ : ∃ x, x = 4 * k + j := ⟨_, rfl⟩
              obtain ⟨sh, hsh⟩ : ∃ x, x = 24 - j * 8 := ⟨_, rfl⟩
              have i1 : (4 : Int) * (k : Int) + (j : Int) = (q : Int) := by omega
              have i5 : (24 : Int) - 8 * (j : Int) = (sh : Int) := by omega
              have j1 : (k : Int) < 8 := by omega
              have j2 : (q : Int) < 32 := by omega
              have s1 := S.out
              rw [cellsS_words] at s1
              have c1 := blk_cell (i := k) s1 (by simp [wordsL]; omega)
              obtain ⟨y, hy⟩ : ∃ y, y = digB (sumS l) q := ⟨_, rfl⟩
              have v1 : (wordsL (sumS l)).getD k 0 / 2 ^ sh % 256 = y := by rw [hy, hq, digB_at _ _ _ hlj, hsh]
              have t0 := T.out
              rw [← hq] at t0
              have htk : ((digI (sumS l)).take q).length = q := by rw [List.length_take, digI_len]; omega
              have c2 := blk_cell (i := q) t0 (by rw [pad32_len (by rw [htk]; omega)]; omega)
              have f2 := t0.frozen q
              have t3 := blk_setI t0 (i := q) y
              have hset := pad32_set (l := (digI (sumS l)).take q) (by rw [htk]; omega) y
              rw [htk, hy, ← digI_take (by omega), ← hy] at hset
              rw [hset, show q + 1 = 4 * k + (j + 1) by omega] at t3
              have hF : Far E wr (wr.setCell ⟨E, q, none⟩ (.int .u8 y)) := far_set _ _
              have T3 := Lib.hid t3
              have S3 := Lib.hid (S.out.grown hF (by simp; omega))
              have D3 := Lib.hid (D.out.grown hF (by simp; omega))
              have B3 := Lib.hid (New.far b.out hF (by omega))
              generalize (wordsL (sumS l)).getD k 0 = x at *
              have hs24 : sh ≤ 24 := by omega
              clear hq hsh s1 hy htk t3 t0 hset hF T S D b
              go_wp2
              go_roundw
              case rel => exact ⟨j + 1, by omega, by go_num, T3, S3, D3, B3⟩
              case measure => simp [intOf]; omega
            · have t0 := T.out
              rw [show 4 * k + j = 4 * (k + 1) by omega] at t0
              have T3 := Lib.hid t0
              clear t0 T
              go_wp2
              go_roundw
              case rel => exact ⟨k + 1, by omega, by go_num, T3, S, D, b⟩
              case measure => simp [intOf]; omega
        · have t3 := T.out
          rw [List.take_of_length_le (by rw [digI_len]; omega), pad32_full (digI_len _)] at t3
          have hz : (ints .u8 zero32).toArray.size = (ints .u8 (digI (sumS l))).toArray.size := by simp [ints, zero32, digI_len]
          have H := Lib.hid (And.intro (row_of_blk t3) (And.intro (row_of_blk D.out) (And.intro (i32d (digI_len (sumS l))) (And.intro hz (And.intro (ints_one .u8 (digI (sumS l))) (blk_setRow D.out (ints .u8 (digI (sumS l))).toArray))))))
          have bE := New.far b.out (far_setRow (g := w.heap.size) wr (ints .u8 (digI (sumS l))).toArray) (Nat.le_refl _)
          have BE := Lib.hid bE
          have hS : digI (sumS l) = sumI l := rfl
          rw [hS] at H BE
          generalize (ints .u8 (sumI l)).toArray = cs at *
          clear t3 hz bE hS T S D b
          go_wp2_with (first
            | (refine wpList_load_row rfl 25 (.tmp 8) rfl E rfl _ cs _ _ H.out.1 digarr rfl H.out.2.2.1 ?_)
            | (refine wpList_store_row rfl 25 (.tmp 2) (.tmp 63) rfl w.heap.size cs rfl rfl _ _ H.out.2.1 H.out.2.2.1 H.out.2.2.2.1 H.out.2.2.2.2.1 ?_))
          exact bodyPost_ret (results_cell_row rfl _ _ w.heap.size _ cs (0, 0) _ rfl H.out.2.2.2.2.2 digarr rfl H.out.2.2.1) rfl ⟨rfl, BE.out⟩

end Go.Proofs.YtglghnnmfplmdaaDoor
