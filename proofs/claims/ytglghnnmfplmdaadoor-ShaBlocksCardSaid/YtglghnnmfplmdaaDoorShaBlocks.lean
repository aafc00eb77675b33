/- ShaBlocks returns true whatever comes in, and leaves all that was there as it was. -/
import Derived.Test.YtglghnnmfplmdaaDoorShaSums
import Derived.Laws.CopyOwn

namespace Go.Proofs.YtglghnnmfplmdaaDoor
open Go.RowKit Go.Hm
theorem sA (W : World) (g : Nat) : (Instr.sliceAt 30 (.pointer (some ⟨g, 0, none⟩)) none none none).run Tryd.prog W = .ok (.slice (some ⟨g, 0, none⟩) 64 64) W := by
  have h := run_sliceAt_array_all W 30 (⟨g, 0, none⟩ : Addr) (P := Tryd.prog) (by kernel_rfl)
  have h2 : (sizeOf (Tryd.prog.elem 30)).run Tryd.prog W = .ok 1 W := by
    have h : (Tryd.prog.info? (Tryd.prog.elem 30)).map (·.size) = some 1 := by kernel_rfl
    cases hq : Tryd.prog.info? (Tryd.prog.elem 30) with
    | none => rw [hq] at h; cases h
    | some i =>
      rw [hq] at h
      have : i.size = 1 := by simpa using h
      simp [sizeOf, typeInfo, hq, this]
  rw [h, h2]
  have h3 : Tryd.prog.arrayLen 30 = 64 := by kernel_rfl
  simp [Result.andThen, slicedAt, h3, add_zero']
theorem splice_all {α : Type} (L cs : List α) (h : cs.length = L.length) : splice L 0 cs = cs := by simp [splice, h]
set_option maxHeartbeats 2000000 in
set_option maxRecDepth 100000 in
theorem shaBlocks_walk {w : World} {A : Option Addr} {n c0 : Nat} {l : List Nat} (h : Reads w w.heap.size 1 A n (nums .u8 l)) (h8 : ∀ x ∈ l, x < 256) (hc : n ≤ c0) (hC : ConstIn w) :
    Calls Tryd.prog 6 #[.slice A n c0] w (SmallPost w) := by
  obtain rfl := h.len
  have SM := Lib.hid (small01_any w hC)
  have HR := Lib.hid h
  have HC := Lib.hid hC
  have H8 := Lib.hid h8
  have HCC := Lib.hid hc
  have HM8 := Lib.hid (msgL_lt h8)
  have HML := Lib.hid (msgL_len l)
  have HMM := Lib.hid (msgL_mod l)
  clear h hC h8 hc
  go_enter Tryd.func6, Tryd.ntmps6
  go_wp2_with fail
  refine SM.out.mono ?_
  rintro e w1 ⟨rfl, b1⟩
  clear SM
  by_cases hn : 1500 < l.length
  · have d1 : decide ((1500 : Int) < (l.length : Int)) = true := by simp; omega
    go_wp2
    go_ret
    exact ⟨rfl, b1⟩
  have d1 : decide ((1500 : Int) < (l.length : Int)) = false := by simp; omega
  have HB1 := Lib.hid b1
  have HN := Lib.hid hn
  clear b1 hn
  go_wp2_with fail
  refine (first_any).mono ?_
  rintro e w2 ⟨rfl, b2⟩
  clear d1
  have HB2 := Lib.hid (New.trans HB1.out b2)
  clear b2 HB1
  have c2 : New w2 (w2.alloc (.cells (cellsS firstS) 29)) := (Below.refl _ _).alloc (Nat.le_refl _) _
  have G2 : Blk (w2.alloc (.cells (cellsS firstS) 29)) w2.heap.size 29 (cellsS firstS) := Blk.new _ _ _
  have hs2 : (w2.alloc (.cells (cellsS firstS) 29)).heap.size = w2.heap.size + 1 := by simp
  have B3 := New.trans HB2.out c2
  have hG : w.heap.size ≤ w2.heap.size := HB2.out.size
  have b3 : New (w2.alloc (.cells (cellsS firstS) 29)) ((w2.alloc (.cells (cellsS firstS) 29)).alloc (.cells #[] 5)) := (Below.refl _ _).alloc (Nat.le_refl _) _
  have o3 : Own ((w2.alloc (.cells (cellsS firstS) 29)).alloc (.cells #[] 5)) w.heap.size 5 (.slice (some ⟨w2.heap.size + 1, 0, none⟩) 0 0) (nums .u8 []) := by
    rw [← hs2]
    exact (Own.empty _ _).base_le (by have := B3.size; omega)
  have g3 := Lib.hid (G2.below b3 G2.lt)
  have b03 := New.trans B3 b3
  have r3 := Reads.later HR.out b03
  have z3 := b03.size
  clear b3 B3 G2 c2 HB2 hs2
  have O3 := Lib.hid o3
  have R3 := Lib.hid r3
  have B03 := Lib.hid b03
  have Z3 := Lib.hid z3
  clear o3 r3 b03 z3
  go_wp2_with (first
    | (refine wpList_store_row rfl 29 (.tmp 4) (.tmp 14) rfl w2.heap.size (cellsS firstS) rfl rfl _ _ (heap_alloc_new _ _) (i8w _) rfl (cellsS_one _) ?_; rw [alloc_setRow])
    | (refine wpList_pushesN elB rfl (.tmp 15) (.tmp 16) rfl (W := w) (B := w.heap.size) (base := w.heap.size) O3.out R3.out rfl rfl B03.out (Nat.le_refl _) Z3.out (by have := HN.out; omega) (by have := HN.out; simp only [maxLen]; omega) ?_
       intro A8 c8 w8 hc8 _ o8 g8 b8 _))
  have G8 := Lib.hid (g3.out.push O3.out g8 (by decide))
  rw [List.nil_append, Nat.zero_add] at o8
  have O8 := Lib.hid o8
  have B8 := Lib.hid b8
  have hPO : padO (l.length : Int) = padL l.length := by unfold padO; rw [if_pos (by have := HN.out; omega), Int.toNat_natCast]
  have hpl : (padL l.length).length ≤ 72 := by rw [padL_len]; unfold zerosN; omega
  have PD := Lib.hid (fun W : World => pad_any (w := W) (l.length : Int))
  rw [hPO] at PD
  have HPL := Lib.hid hpl
  generalize w2.heap.size = G at *
  clear g8 o8 b8 Z3 O3 R3 B03 g3 hPO hpl
  go_wp2_with fail
  refine (PD.out _).mono ?_
  rintro e w9 ⟨A9, n9, c9, rfl, o9, b9⟩
  have r9 := o9.reads
  obtain rfl := r9.len
  have o89 := O8.out.later b9
  have G9 := Lib.hid (G8.out.below b9 G8.out.lt)
  have b09 := New.trans B8.out b9
  have z9 := b09.size
  clear o9 PD O8 B8 G8 b9
  have HQ : Hid (∀ q, l.length + (padL l.length).length = q → q = (msgL l).length ∧ (q : Int) % 64 = 0 ∧ (q : Int).tmod 64 = 0) := Lib.hid (fun q hq => by
    have h1 := HML.out
    have h2 := HMM.out
    refine ⟨by omega, by omega, ?_⟩
    rw [Int.tmod_eq_emod_of_nonneg (by omega)]
    omega)
  go_wp2_with (refine wpList_pushesN elB rfl (.tmp 17) (.tmp 20) rfl (W := w) (B := w.heap.size) (base := w.heap.size) o89 r9 rfl rfl b09 (Nat.le_refl _) z9 (by have := HN.out; have := HPL.out; omega) (by have := HN.out; have := HPL.out; simp only [maxLen]; omega) ?_
               intro A10 c10 w10 hc10 _ o10 g10 b10 _
               have G10 := Lib.hid (G9.out.push o89 g10 (by decide))
               have hq0 := HQ.out
               clear HQ HML HMM HPL
               generalize l.length + (padL l.length).length = q at *
               have hq1 := Lib.hid (hq0 q rfl).1
               have hq2 := (hq0 q rfl).2.1
               have hq3 := (hq0 q rfl).2.2
               clear hq0
               have O10 := Lib.hid o10
               have B10 := Lib.hid b10
               clear o89 r9 g10 b09 b10 z9 o10 G9)
  have o10 := O10.out
  rw [show l ++ padL l.length = msgL l from rfl] at o10
  have T10 := TR.of_own o10
  generalize hM : msgL l = M at *
  have HMl := Lib.hid hM
  have HS := Lib.hid (show foldK M (M.length / 64) = sumS l by rw [← hM]; rfl)
  have T10 := Lib.hid (show TR w10 5 A10 q (nums .u8 (M.drop (64 * 0))) from T10)
  have G10 := Lib.hid (show Blk w10 G 29 (cellsS (foldK M 0)) from G10.out)
  have HM2 := Lib.hid (show q = M.length - 64 * 0 by have := hq1.out; omega)
  have HM6 := Lib.hid (show M.length % 64 = 0 by have := hq1.out; omega)
  clear hM hq1 hq2 hq3 o10 O10
  go_loopw [5] (fun v wr => ∃ (k m c : Nat) (A : Option Addr), Hid (m = M.length - 64 * k) ∧ Hid (64 * k ≤ M.length) ∧ v = .slice A m c ∧ m ≤ c ∧ Hid (TR wr 5 A m (nums .u8 (M.drop (64 * k)))) ∧ Hid (Blk wr G 29 (cellsS (foldK M k))) ∧ Hid (New w wr)) (fun v _ => lenOf v)
  case atStart => exact ⟨0, q, c10, A10, HM2, Lib.hid (by omega), rfl, hc10, T10, G10, B10⟩
  case round =>
    clear HM2 T10 G10 B10
    obtain ⟨k, m, c, A, HM, HKL, rfl, hmc, T, S, b⟩ := hrel
    by_cases hlt : 0 < m
    · have hm2 : 64 * k + 64 ≤ M.length := by have := HM.out; have := HKL.out; have := HM6.out; omega
      have h64 : 64 ≤ m := by have := HM.out; omega
      have hb64 : (blkN M k).length = 64 := blkN_len hm2
      have hb8 := blkN_lt (k := k) HM8.out
      have SLL := Lib.hid (fun W : World => show (Instr.sliceAt 22 (.slice A m c) (some (.int .i64 64)) none none).run Tryd.prog W = .ok (.slice (if c = 64 then A else A.map (·.add 64)) (m - 64) (c - 64)) W from slice_l sB zB A m c 64 h64 W)
      have hcut := T.out.cut (k := 64) (cap := c) h64 hmc
      rw [nums_drop, List.drop_drop, show 64 * k + 64 = 64 * (k + 1) by omega] at hcut
      generalize (if c = 64 then A else A.map (·.add 64)) = A' at *
      have HCUT := Lib.hid hcut
      obtain ⟨ad, rfl, _⟩ := T.out.1.2 hlt
      have CL := Lib.hid (fun (W : World) (hW : New wr W) => show ∀ j v, (nums .u8 (blkN M k))[j]? = some v → W.cell? (ad.add j) = some v by
        have h2 := ((T.out.below hW).1.take (k := 64) h64)
        rw [Nat.mul_one, nums_take] at h2
        obtain ⟨ad2, e2, _, h3⟩ := h2.2 (by omega)
        obtain rfl := Option.some.inj e2
        exact h3)
      have CP := Lib.hid (fun (W : World) (hW : New w W) => compress_any (w := W) (foldK M k) (foldK_ok _ _) (blkN M k) hb64 hb8 (HC.out.new hW))
      have hst : compS (foldK M k) (blkN M k) = foldK M (k + 1) := rfl
      rw [hst] at CP
      have HM3 := Lib.hid (show m - 64 = M.length - 64 * (k + 1) by have := HM.out; omega)
      have HKL3 := Lib.hid (show 64 * (k + 1) ≤ M.length by omega)
      have d1 : decide (0 < m) = true := by simpa using hlt
      have HI := Lib.hid (i64b hb64)
      have hcs : (nums .u8 (blkN M k)).length = 64 := by rw [nums_length, hb64]
      have hone := nums_oneCell .u8 (blkN M k)
      generalize hCS : nums .u8 (blkN M k) = cs at *
      have HCS := Lib.hid hCS
      have HMin : Hid (cs.length = Nat.min m 64) := Lib.hid (by rw [hcs]; exact (Nat.min_eq_right h64).symm)
      have HONE := Lib.hid hone
      have HLEN := Lib.hid hcs
      clear hb64 hb8 hcut hst hm2 HM HKL hCS hone hcs T
      go_wp2_with (first
        | (refine wpList_slice rfl 30 (.tmp 6) none none none rfl (sA _ _) ?_)
        | ((refine wpList_copy_splice rfl (.tmp 29) (.tmp 30) _ _ rfl 5 (by kernel_rfl) (by kernel_rfl) (some ⟨wr.heap.size, 0, none⟩) (some ad) 64 64 m c rfl rfl wr.heap.size 0 (List.replicate 64 (Value.int .u8 0)) 30 (heap_alloc_new _ _) cs HMin.out (fun _ => ⟨rfl, ad, rfl, CL.out _ ((Below.refl _ _).alloc (Nat.le_refl _) _)⟩) (by rw [HLEN.out]; decide) HONE.out wr.heap.size wr ((Below.refl _ _).alloc (Nat.le_refl _) _) (Nat.le_refl _) ?_)
           intro w6 HG6 hB6
           have hq6 := HG6.out
           rw [splice_all _ _ (by rw [HLEN.out, List.length_replicate])] at hq6
           have Q6 := Lib.hid hq6
           have S6 := Lib.hid (S.out.below hB6 S.out.lt)
           have b6 := Lib.hid (New.trans b.out hB6)
           have T6 := Lib.hid (HCUT.out.below hB6)
           clear HG6 hB6 hq6 CL HMin HONE)
        | (refine wpList_load_row rfl 29 (.tmp 4) rfl G rfl _ (cellsS (foldK M k)) _ _ S6.out u32arr rfl (i8w _) ?_)
        | (refine wpList_load_row rfl 30 (.tmp 6) rfl wr.heap.size rfl _ cs.toArray _ _ Q6.out u8arr rfl (by have h := HI.out; simpa using h) ?_)
        | fail)
      refine (CP.out _ b6.out).mono ?_
      rintro e9 w9 ⟨rfl, c9⟩
      have S9 := S6.out.below c9 S6.out.lt
      have T9 := T6.out.below c9
      have hF := far_setRow (g := G) w9 (cellsS (foldK M (k + 1)))
      have S10 := Lib.hid (blk_setRow S9 (cellsS (foldK M (k + 1))))
      have T10 := Lib.hid (T9.keep hF S9 (by decide))
      have B10 := Lib.hid (New.far (New.trans b6.out c9) hF (by omega))
      have R9 := Lib.hid (row_of_blk S9)
      clear S9 T9 hF c9 CP S6 T6 Q6 b6 S b HCUT
      go_wp2_with (first
        | (refine wpList_store_row rfl 29 (.tmp 4) (.tmp 34) rfl G (cellsS (foldK M (k + 1))) rfl rfl _ _ R9.out (i8w _) rfl (cellsS_one _) ?_)
        | (refine wpList_slice rfl 22 (.tmp 35) (some (.const (.int .i64 64))) none none rfl (SLL.out _) ?_))
      go_roundw
      case rel => exact ⟨k + 1, m - 64, c - 64, A', HM3, HKL3, rfl, by omega, T10, S10, B10⟩
      case measure => simp [lenOf]; omega
    · have hk : foldK M k = sumS l := by
        rw [← HS.out]
        congr 1
        have := HM.out
        have := HKL.out
        have := HM6.out
        omega
      rw [hk] at S
      have d1 : decide (0 < m) = false := by simpa using hlt
      have SU := Lib.hid (sum_any (c := c0) (Reads.later HR.out b.out) H8.out HCC.out (by have := HN.out; omega) (HC.out.new b.out))
      clear hk T HM HKL HS HM6 HMl HM8
      go_wp2_with fail
      refine SU.out.mono ?_
      rintro e w9 ⟨rfl, c9⟩
      have S9 := Lib.hid (S.out.below c9 S.out.lt)
      have b9 := Lib.hid (New.trans b.out c9)
      have hsz : (ints .u8 zero32).toArray.size = (ints .u8 (sumI l)).toArray.size := by simp [ints, zero32, sumI_len]
      have HSZ := Lib.hid hsz
      have D0 := Lib.hid (i32d (sumI_len l))
      have c5 : New w9 (w9.alloc (.cells (ints .u8 (sumI l)).toArray 25)) := (Below.refl _ _).alloc (Nat.le_refl _) _
      have E5 := Lib.hid (Blk.new w9 25 (ints .u8 (sumI l)).toArray)
      have S5 := Lib.hid (S9.out.below c5 S9.out.lt)
      have B5 := Lib.hid (New.trans b9.out c5)
      have HL := Lib.hid (sumI_len l)
      have HY : Hid (∀ k : Nat, k < 32 → (sumI l).getD k 0 = digB (sumS l) k) := Lib.hid (fun k hk => by simp [sumI, digI, hk])
      clear hsz S9 c5 b9 c9 S b SU HR H8 HC HCC HN
      go_wp2_with (first | (refine wpList_store_row rfl 25 (.tmp 7) (.tmp 38) rfl w9.heap.size (ints .u8 (sumI l)).toArray rfl rfl _ _ (heap_alloc_new _ _) D0.out HSZ.out (ints_one _ _) ?_; rw [alloc_setRow]) | fail)
      generalize w9.heap.size = E at *
      generalize (w9.alloc (.cells (ints .u8 (sumI l)).toArray 25)) = W5 at *
      go_loopw [8] (fun i wr => ∃ k : Nat, k ≤ 32 ∧ i = .int .i64 (k : Int) ∧ Hid (Blk wr E 25 (ints .u8 (sumI l)).toArray) ∧ Hid (Blk wr G 29 (cellsS (sumS l))) ∧ Hid (New w wr)) (fun i _ => 32 - (intOf i).toNat)
      case atStart => exact ⟨0, by omega, rfl, E5, S5, B5⟩
      case round =>
        clear E5 S5 B5 D0 HSZ
        obtain ⟨k, hk, rfl, T, S, b⟩ := hrel
        by_cases hlk : k < 32
        · obtain ⟨q, hq⟩ : ∃ x, x = k / 4 := ⟨_, rfl⟩
          obtain ⟨r4, hr4⟩ : ∃ x, x = k % 4 := ⟨_, rfl⟩
          obtain ⟨sh, hsh⟩ : ∃ x, x = 24 - r4 * 8 := ⟨_, rfl⟩
          have i1 : (k : Int) / 4 = (q : Int) := by omega
          have i2 : (k : Int).tdiv 4 = (q : Int) := by rw [Int.tdiv_eq_ediv_of_nonneg (by omega)]; omega
          have i3 : (k : Int) % 4 = (r4 : Int) := by omega
          have i4 : (k : Int).tmod 4 = (r4 : Int) := by rw [Int.tmod_eq_emod_of_nonneg (by omega)]; omega
          obtain ⟨m8, hm8⟩ : ∃ x, x = 8 * r4 := ⟨_, rfl⟩
          have a1 : IntKind.i64.wrap (q : Int) = (q : Int) := by rw [IntKind.wrap_i64]; omega
          have a2 : IntKind.i64.wrap (8 * (r4 : Int)) = (m8 : Int) := by rw [IntKind.wrap_i64]; omega
          have a3 : IntKind.i64.wrap (24 - (m8 : Int)) = (sh : Int) := by rw [IntKind.wrap_i64]; omega
          have a4 : IntKind.u64.wrap (sh : Int) = (sh : Int) := by simp [IntKind.wrap, IntKind.bits, IntKind.signed]; omega
          have j1 : (q : Int) < 8 := by omega
          have j2 : (k : Int) < 32 := by omega
          have hs24 : sh ≤ 24 := by omega
          obtain ⟨y, hy⟩ : ∃ y, y = digB (sumS l) k := ⟨_, rfl⟩
          have v1 : (wordsL (sumS l)).getD q 0 / 2 ^ sh % 256 = y := by rw [hy, hsh, hr4, hq]; rfl
          have hgy : (sumI l).getD k 0 = y := by rw [hy]; exact HY.out k hlk
          have CE := Lib.hid (fun (W : World) (hW : New wr W) => show W.cell? ⟨E, k, none⟩ = some (.int .u8 y) by
            rw [← hgy]
            exact blk_cell (T.out.below hW T.out.lt) (by rw [HL.out]; exact hlk))
          have s1 := S.out
          rw [cellsS_words] at s1
          have CG := Lib.hid (fun (W : World) (hW : New wr W) => show W.cell? ⟨G, q, none⟩ = some (.int .u32 ((wordsL (sumS l)).getD q 0)) from
            blk_cell (s1.below hW s1.lt) (by simp [wordsL]; omega))
          generalize (wordsL (sumS l)).getD q 0 = x at *
          have v2 : IntKind.u8.wrap (x / 2 ^ sh) = y := by rw [← v1]; rfl
          clear hq hr4 hsh s1 hy hgy hm8
          go_wp2
          refine wp_region_up New [(true, 0), (true, 1), (true, 2), (true, 3), (true, 4), (true, 5), (true, 6), (true, 7), (true, 8), (true, 9), (true, 10), (true, 11), (true, 12), (true, 13), (true, 14)]
            New.refl New.trans (by kernel_rfl) (by kernel_rfl) (by kernel_rfl) (by kernel_rfl) ?_
          have hU := New.drew wr
          iterate 15 (
            refine up_quiet rfl rfl (v := ?_) (fun W hW => ?_) ?_
            rotate_left
            · have c1 := CE.out W (New.trans hU hW)
              have c2 := CG.out W (New.trans hU hW)
              go_simp <;> with_reducible rfl
            simp only [Act.put, List.setIfInBounds_toArray, List.set_cons_zero, List.set_cons_succ])
          refine up_nil ?_
          have T3 := Lib.hid (T.out.below hU T.out.lt)
          have S3 := Lib.hid (S.out.below hU S.out.lt)
          have B3 := Lib.hid (New.trans b.out hU)
          clear CE CG T S b
          go_wp2
          go_roundw
          case rel => exact ⟨k + 1, by omega, by go_num, T3, S3, B3⟩
          case measure => simp [intOf]; omega
        · have bE := b.out
          have HBE := Lib.hid bE
          clear T S b bE
          go_wp2
          go_ret
          exact ⟨rfl, HBE.out⟩

set_option maxRecDepth 100000 in
open Go.WideShapes Go.ChangeShapes in
theorem shaBlocks_contract {H : Type} {enc : TypeId × Value → H} (W : World) (base : Nat) (args : Array Value) (ds : List (DataW H)) (ps : List MemPlace)
    (hval : ∀ (j : Nat) t v, Tryd.f6.params[j]? = some t → args[j]? = some v → Value.okWide Tryd.prog W .any base t v)
    (hA : DataW.TrodAll enc Tryd.prog W 0 (fun _ => true) true Tryd.f6.params.toList args.toList ds ps) (hlt : ∀ p ∈ ps, p.block < W.heap.size)
    (hsz : (DataW.weightsEach Tryd.prog Tryd.f6.params.toList ds).all (· ≤ reachBytes) = true) (hL : laidMetH Tryd.prog laidC W) :
    Calls Tryd.prog 6 args W fun e W' => e = .returned (.bool true) ∧ Below W.heap.size W W' := by
  rw [Tryd.params6] at hA hval hsz
  obtain ⟨v0, d0, rfl, rfl, h0⟩ := trodAll_one hA
  obtain ⟨A_b, c_b, b, rfl, hc_b, hm_b, hr_b, hl_b⟩ := open_B (hval 0 _ _ rfl rfl) h0 hlt (sized_at hsz (j := 0) rfl rfl)
  exact shaBlocks_walk hr_b hl_b hc_b (const_of_laid hL)

end Go.Proofs.YtglghnnmfplmdaaDoor
