/- Contract on sha.Sum. -/
import Derived.Test.YtglghnnmfplmdaaDoorShaF

namespace Go.Hm
open Go Go.RowKit
def zero32 : List Int := List.replicate 32 0
theorem slice_l {P : Program} {t : TypeId} (ht : P.underlying t = some (.slice (P.elem t))) (hs : ∀ w, (sizeOf (P.elem t)).run P w = .ok 1 w) (A : Option Addr) (n c k : Nat) (hk : k ≤ n) (w : World) :
    (Instr.sliceAt t (.slice A n c) (some (.int .i64 (k : Int))) none none).run P w = .ok (.slice (if c = k then A else A.map (·.add k)) (n - k) (c - k)) w := by
  rw [run_sliceAt_slice w t _ _ _ _ ht, run_slice_l w t A n c ht .i64 (k : Int) (by omega) (by omega), hs]
  simp [Result.andThen, sliced]
theorem slice_lh {P : Program} {t : TypeId} (ht : P.underlying t = some (.slice (P.elem t))) (hs : ∀ w, (sizeOf (P.elem t)).run P w = .ok 1 w) (A : Option Addr) (n c k m : Nat) (hk : k ≤ m) (hc : m ≤ c) (w : World) :
    (Instr.sliceAt t (.slice A n c) (some (.int .i64 (k : Int))) (some (.int .i64 (m : Int))) none).run P w = .ok (.slice (if c = k then A else A.map (·.add k)) (m - k) (c - k)) w := by
  rw [run_sliceAt_slice w t _ _ _ _ ht, run_slice_lh w t A n c ht .i64 .i64 (k : Int) (m : Int) (by omega) (by omega) (by omega), hs]
  simp [Result.andThen, sliced]
theorem slice_h {P : Program} {t : TypeId} (ht : P.underlying t = some (.slice (P.elem t))) (hs : ∀ w, (sizeOf (P.elem t)).run P w = .ok 1 w) (A : Option Addr) (n c m : Nat) (hc : m ≤ c) (w : World) :
    (Instr.sliceAt t (.slice A n c) none (some (.int .i64 (m : Int))) none).run P w = .ok (.slice A m c) w := by
  rw [run_sliceAt_slice w t _ _ _ _ ht, run_slice_h w t A n c ht .i64 (m : Int) (by omega) (by omega), hs]
  have e : ∀ a : Addr, a.add 0 = a := add_zero'
  cases A <;> simp [Result.andThen, sliced, e]

end Go.Hm

namespace Go.Proofs.YtglghnnmfplmdaaDoor
open Go.RowKit Go.Hm
theorem sB : Tryd.prog.underlying 22 = some (.slice (Tryd.prog.elem 22)) := by kernel_rfl
theorem zB : ∀ w, (sizeOf (Tryd.prog.elem 22)).run Tryd.prog w = .ok 1 w := fun w => by
  have h : (Tryd.prog.info? (Tryd.prog.elem 22)).map (·.size) = some 1 := by kernel_rfl
  cases hq : Tryd.prog.info? (Tryd.prog.elem 22) with
  | none => rw [hq] at h; cases h
  | some i =>
    rw [hq] at h
    have : i.size = 1 := by simpa using h
    simp [sizeOf, typeInfo, hq, this]
theorem u8arr : Tryd.prog.underlying 30 = some (.array 64 5) := by kernel_rfl
theorem u32arr : Tryd.prog.underlying 29 = some (.array 8 28) := by kernel_rfl
theorem digarr : Tryd.prog.underlying 25 = some (.array 32 5) := by kernel_rfl
theorem i64b {l : List Nat} (h : l.length = 64) : (Tryd.prog.info? 30).map (·.size) = some (nums .u8 l).length := by
  rw [nums_length, h]
  kernel_rfl
theorem i8w (s : S8) : (Tryd.prog.info? 29).map (·.size) = some (cellsS s).size := by
  rw [show (cellsS s).size = 8 from rfl]
  kernel_rfl
theorem i32d {l : List Int} (h : l.length = 32) : (Tryd.prog.info? 25).map (·.size) = some (ints .u8 l).toArray.size := by
  rw [show (ints .u8 l).toArray.size = 32 by simp [ints, h]]
  kernel_rfl
set_option maxHeartbeats 2000000 in
set_option maxRecDepth 100000 in
theorem sum_any {w : World} {A : Option Addr} {n c : Nat} {l : List Nat} (h : Reads w w.heap.size 1 A n (nums .u8 l)) (h8 : ∀ x ∈ l, x < 256) (hc : n ≤ c) (hn : n ≤ 1000000) (hC : ConstIn w) :
    Calls Tryd.prog 9 #[.slice A n c] w (NewPost (.agg (ints .u8 (sumI l)).toArray) w) := by
  obtain rfl := h.len
  obtain ⟨r, hr⟩ : ∃ r, r = l.length % 64 := ⟨_, rfl⟩
  obtain ⟨wh, hwh⟩ : ∃ r, r = l.length - l.length % 64 := ⟨_, rfl⟩
  have e1 : (l.length : Int) % 64 = (r : Int) := by omega
  have e2 : (l.length : Int).tmod 64 = (r : Int) := by rw [Int.tmod_eq_emod_of_nonneg (by omega)]; omega
  have e3 : (l.length : Int) - (r : Int) = (wh : Int) := by omega
  have hw64 : wh % 64 = 0 := by omega
  have hwl : wh ≤ l.length := by omega
  have HR := Lib.hid h
  have HC := Lib.hid hC
  have HH := Lib.hid h8
  have HW64 := Lib.hid hw64
  have HM8 := Lib.hid (msgL_lt h8)
  have HML := Lib.hid (msgL_len l)
  have HMM := Lib.hid (msgL_mod l)
  have HPL := Lib.hid (padL_len l.length)
  clear h hC h8 hr hwh hw64
  go_enter Tryd.func9, Tryd.ntmps9
  go_wp2_with fail
  obtain ⟨W0, hW0⟩ : ∃ W, W = w.alloc (.cells (ints .u8 zero32).toArray 25) := ⟨_, rfl⟩
  have b0 : New w W0 := by rw [hW0]; exact (Below.refl _ _).alloc (Nat.le_refl _) _
  have D0 : Blk W0 w.heap.size 25 (ints .u8 zero32).toArray := by rw [hW0]; exact Blk.new _ _ _
  refine (first_any).mono ?_
  rintro e w1 ⟨rfl, b1⟩
  have b1 : New W0 w1 := by rw [hW0]; exact b1
  have D1 := D0.below b1 D0.lt
  have b01 := New.trans b0 b1
  have HB1 := Lib.hid b01
  have HD1 := Lib.hid D1
  clear hW0 b0 D0 b1 D1 b01
  go_wp2_with (first | (refine wpList_store_row rfl 29 (.tmp 3) (.tmp 9) rfl w1.heap.size (cellsS firstS) rfl rfl _ _ (heap_alloc_new _ _) (i8w _) rfl (cellsS_one _) ?_; rw [alloc_setRow]) | fail)
  obtain ⟨W2, hW2⟩ : ∃ W, W = w1.alloc (.cells (cellsS firstS) 29) := ⟨_, rfl⟩
  have c2 : New w1 W2 := by rw [hW2]; exact (Below.refl _ _).alloc (Nat.le_refl _) _
  have G2 : Blk W2 w1.heap.size 29 (cellsS (foldK (msgL l) 0)) := by rw [hW2]; exact Blk.new _ _ _
  have D2 := Lib.hid (HD1.out.below c2 HD1.out.lt)
  have B2 := Lib.hid (New.trans HB1.out c2)
  have hG : w.heap.size < w1.heap.size := HD1.out.lt
  have HG2 := Lib.hid G2
  rw [← hW2]
  generalize w1.heap.size = G at *
  clear hW2 c2 G2 HB1 HD1 e1 e2 e3
  go_loopw [5] (fun i wr => ∃ k a : Nat, Hid (a = 64 * k) ∧ a ≤ wh ∧ i = .int .i64 (a : Int) ∧ Hid (Blk wr G 29 (cellsS (foldK (msgL l) k))) ∧ Hid (Blk wr w.heap.size 25 (ints .u8 zero32).toArray) ∧ Hid (New w wr)) (fun i _ => wh - (intOf i).toNat)
  case atStart => exact ⟨0, 0, Lib.hid rfl, by omega, rfl, HG2, D2, B2⟩
  case round =>
    clear HG2 D2 B2
    obtain ⟨k, a, HA, ha, rfl, S, D, b⟩ := hrel
    by_cases hlt : a < wh
    · obtain ⟨a2, ha2⟩ : ∃ x, x = a + 64 := ⟨_, rfl⟩
      have hle : a2 ≤ wh := by have := HA.out; have := HW64.out; omega
      have i2 : IntKind.i64.wrap ((a : Int) + 64) = (a2 : Int) := by rw [IntKind.wrap_i64]; omega
      have SL := Lib.hid (fun W : World => slice_lh sB zB A l.length c a a2 (by omega) (by omega) W)
      have hb := blkN_head (l := l) (k := k) (by rw [← HA.out]; omega)
      have hb64 : (blkN (msgL l) k).length = 64 := blkN_len (by rw [← HA.out, HML.out]; omega)
      have hb8 := blkN_lt (k := k) HM8.out
      rw [← HA.out] at hb
      have hcut := fun (W : World) (hW : New w W) => ((Reads.later HR.out hW).cut (k := a) (cap := c) (by omega) hc).take (k := 64) (by omega)
      have CELL := Lib.hid (fun (W : World) (hW : New w W) => show ∃ ad, (if c = a then A else A.map (·.add a)) = some ad ∧ ∀ j v, (nums .u8 (blkN (msgL l) k))[j]? = some v → W.cell? (ad.add j) = some v by
        obtain ⟨ad, h1, _, h3⟩ := (hcut W hW).2 (by omega)
        rw [Nat.mul_one, Nat.mul_one] at *
        rw [nums_drop, nums_take, ← hb] at h3
        exact ⟨ad, h1, h3⟩)
      have HZ := Lib.hid (show a2 - a = 64 by omega)
      generalize (if c = a then A else A.map (·.add a)) = AA at *
      have SL2 := Lib.hid (fun W : World => (show (Instr.sliceAt 22 (.slice A l.length c) (some (.int .i64 (a : Int))) (some (.int .i64 (a2 : Int))) none).run Tryd.prog W = .ok (.slice AA 64 (c - a)) W by have := SL.out W; rwa [HZ.out] at this))
      have HB64 := Lib.hid hb64
      have HB8 := Lib.hid hb8
      have CP := Lib.hid (fun (W : World) (hW : New w W) => compress_any (w := W) (foldK (msgL l) k) (foldK_ok _ _) (blkN (msgL l) k) hb64 hb8 (HC.out.new hW))
      have hst : compS (foldK (msgL l) k) (blkN (msgL l) k) = foldK (msgL l) (k + 1) := rfl
      rw [hst] at CP
      clear hb hb64 hb8 hcut hst SL
      obtain ⟨ad, rfl, _⟩ := CELL.out wr b.out
      have CL := Lib.hid (fun (W : World) (hW : New w W) => show ∀ j v, (nums .u8 (blkN (msgL l) k))[j]? = some v → W.cell? (ad.add j) = some v by
        obtain ⟨ad2, h1, h2⟩ := CELL.out W hW
        obtain rfl := Option.some.inj h1
        exact h2)
      have HA2 := Lib.hid ha2
      clear CELL ha2
      go_wp2
      refine wp_region_upT New 9 [(0, 0), (1, 1), (1, 2), (1, 3), (1, 4), (1, 5), (1, 6), (0, 7), (2, 8), (2, 9)]
        New.refl New.trans (by kernel_rfl) (by kernel_rfl) (by kernel_rfl) (by kernel_rfl) ?_
      have hU := New.trans b.out (New.drew wr)
      refine upT_quiet rfl rfl (v := .agg (cellsS (foldK (msgL l) k))) (fun W hW => exec_load_row rfl (S.out.below (New.trans (New.drew wr) hW) S.out.lt) u32arr rfl (i8w _)) ?_
      simp only [Act.put, List.setIfInBounds_toArray, List.set_cons_zero, List.set_cons_succ]
      iterate 4 (
        refine upT_pure rfl rfl (v := ?_) (fun W => ?_) ?_
        rotate_left
        · go_simp <;> with_reducible rfl
        simp only [Act.put, List.setIfInBounds_toArray, List.set_cons_zero, List.set_cons_succ])
      refine upT_pure rfl rfl (v := .slice (some ad) 64 (c - a)) (fun W => exec_slice (SL2.out W)) ?_
      simp only [Act.put, List.setIfInBounds_toArray, List.set_cons_zero, List.set_cons_succ]
      refine upT_pure rfl rfl (v := .pointer (some ad)) (fun W => exec_arrayAt rfl u8arr (Nat.le_refl _)) ?_
      simp only [Act.put, List.setIfInBounds_toArray, List.set_cons_zero, List.set_cons_succ]
      refine upT_quiet rfl rfl (v := .agg (nums .u8 (blkN (msgL l) k)).toArray) (fun W hW => exec_load_at rfl (CL.out W (New.trans hU hW)) u8arr rfl (i64b HB64.out)) ?_
      simp only [Act.put, List.setIfInBounds_toArray, List.set_cons_zero, List.set_cons_succ]
      refine upT_call rfl rfl (fun K hK => ?_)
      go_simp
      (with_reducible refine (CP.out _ hU).mono ?_)
      rintro e9 w9 ⟨rfl, c9⟩
      refine hK _ _ (.inr (.inr c9)) ?_
      clear hK
      have hN := New.trans (New.drew wr) c9
      have S9 := S.out.below hN S.out.lt
      have D9 := D.out.below hN D.out.lt
      have b9 := New.trans hU c9
      refine upT_call rfl rfl (fun K hK => ?_)
      refine wp_store_row 29 (.tmp 3) (.tmp 29) rfl G (cellsS (foldK (msgL l) (k + 1))) rfl rfl _ _ (row_of_blk S9) (i8w _) rfl (cellsS_one _) ?_
      refine hK _ _ (.inr (.inl rfl)) ?_
      clear hK
      refine upT_nil ?_
      have hF := far_setRow (g := G) w9 (cellsS (foldK (msgL l) (k + 1)))
      have S10 := Lib.hid (blk_setRow S9 (cellsS (foldK (msgL l) (k + 1))))
      have D10 := Lib.hid (D9.grown hF (by simp; omega))
      have B10 := Lib.hid (New.far b9 hF (by omega))
      have HA3 := Lib.hid (show a2 = 64 * (k + 1) by rw [HA2.out, HA.out]; omega)
      have e4 : (a : Int) + 64 = (a2 : Int) := by have := HA2.out; omega
      clear S9 D9 b9 hN hU hF i2 CP CL SL2 c9
      go_wp2
      go_roundw
      case rel => exact ⟨k + 1, a2, HA3, hle, rfl, S10, D10, B10⟩
      case measure => simp [intOf]; omega
    · have haw : a = wh := by omega
      have HK := Lib.hid (show wh = 64 * k by rw [← haw]; exact HA.out)
      subst haw
      have SL := Lib.hid (fun W : World => slice_l sB zB A l.length c a hwl W)
      have hcut := (Reads.later HR.out b.out).cut (k := a) (cap := c) hwl hc
      rw [Nat.mul_one, nums_drop] at hcut
      generalize (if c = a then A else A.map (·.add a)) = A3 at *
      have hPO : padO (l.length : Int) = padL l.length := by unfold padO; rw [if_pos (by omega), Int.toNat_natCast]
      have hpl : (padL l.length).length ≤ 72 := by rw [padL_len]; unfold zerosN; omega
      have PD := Lib.hid (fun W : World => pad_any (w := W) (l.length : Int))
      rw [hPO] at PD
      have hdl : (l.drop a).length = l.length - a := List.length_drop
      have hnl : (msgL l).drop a = l.drop a ++ padL l.length := by unfold msgL; rw [List.drop_append_of_le_length hwl]
      have HNL := Lib.hid hnl
      have HCUT := Lib.hid hcut
      have z0 := b.out.size
      have HPL2 := Lib.hid hpl
      have HDL := Lib.hid hdl
      clear hcut hPO hnl hpl hdl HPL
      go_wp2_with (first
        | (refine wpList_slice rfl 22 (.tmp 30) (some (.tmp 31)) none none rfl (SL.out wr) ?_)
        | (refine wpList_pushesN elB rfl (.const (.slice none 0 0)) (.tmp 32) rfl (W := w) (B := w.heap.size) (base := w.heap.size) (l := []) Own.nil_ HCUT.out rfl rfl b.out (Nat.le_refl _) z0 (by omega) (by simp only [maxLen]; omega) ?_
           intro A8 c8 w8 _ _ o8 g8 b8 _))
      have S8 := Lib.hid (S.out.grown g8 (by simp [Value.ownBlock]))
      have D8 := Lib.hid (D.out.grown g8 (by simp [Value.ownBlock]))
      rw [List.nil_append, Nat.zero_add] at o8
      have O8 := Lib.hid o8
      have B8 := Lib.hid b8
      clear g8 o8 b8 z0 S D
      refine (PD.out _).mono ?_
      rintro e w9 ⟨A9, n9, c9, rfl, o9, b9⟩
      have r9 := o9.reads
      obtain rfl := r9.len
      have o89 := O8.out.later b9
      have S9 := Lib.hid (S8.out.below b9 S8.out.lt)
      have D9 := Lib.hid (D8.out.below b9 D8.out.lt)
      have b09 := New.trans B8.out b9
      have z9 := b09.size
      have hsum : l.length - a + (padL l.length).length ≤ 1000100 := by have := HPL2.out; omega
      clear o9 PD SL HCUT O8 B8 S8 D8 b9
      go_wp2_with (refine wpList_pushesN elB rfl (.tmp 33) (.tmp 36) rfl (W := w) (B := w.heap.size) (base := w.heap.size) o89 r9 rfl rfl b09 (Nat.le_refl _) z9 (by omega) (by simp only [maxLen]; omega) ?_
                   intro A10 c10 w10 hc10 _ o10 g10 b10 _)
      have S10 := Lib.hid (S9.out.push o89 g10 (by decide))
      have D10 := Lib.hid (D9.out.push o89 g10 (by decide))
      rw [← HNL.out, show (msgL l).drop a = (msgL l).drop (64 * k) by rw [HK.out]] at o10
      have T10 := Lib.hid (TR.of_own o10)
      have B10 := Lib.hid b10
      have HM := Lib.hid (show l.length - a + (padL l.length).length = (msgL l).length - 64 * k by rw [HML.out, ← HK.out]; omega)
      have HKL := Lib.hid (show 64 * k ≤ (msgL l).length by rw [HML.out, ← HK.out]; omega)
      have hs2 : l.length - a + (padL l.length).length ≤ c10 := by omega
      have hcm : c10 ≤ maxLen := by assumption
      generalize l.length - a + (padL l.length).length = m10 at *
      clear o89 r9 g10 b09 b10 z9 o10 S9 D9 HNL hsum hwl HPL2 HDL
      have HM2 := Lib.hid (show m10 = (msgL l).length - 64 * k from HM.out)
      clear HM HA HK
      go_loopw [6] (fun v wr => ∃ (k m c : Nat) (A : Option Addr), Hid (m = (msgL l).length - 64 * k) ∧ Hid (64 * k ≤ (msgL l).length) ∧ v = .slice A m c ∧ m ≤ c ∧ Hid (TR wr 5 A m (nums .u8 ((msgL l).drop (64 * k)))) ∧ Hid (Blk wr G 29 (cellsS (foldK (msgL l) k))) ∧ Hid (Blk wr w.heap.size 25 (ints .u8 zero32).toArray) ∧ Hid (New w wr)) (fun v _ => lenOf v)
      case atStart => exact ⟨k, m10, c10, A10, HM2, HKL, rfl, hs2, T10, S10, D10, B10⟩
      case round =>
        clear HM2 HKL T10 S10 D10 B10
        obtain ⟨k, m, c, A, HM, HKL, rfl, hmc, T, S, D, b⟩ := hrel
        by_cases hlt : 64 ≤ m
        · have hm2 : 64 * k + 64 ≤ (msgL l).length := by have := HM.out; have := HKL.out; omega
          have hb64 : (blkN (msgL l) k).length = 64 := blkN_len hm2
          have hb8 := blkN_lt (k := k) HM8.out
          have SLH := Lib.hid (fun W : World => show (Instr.sliceAt 22 (.slice A m c) none (some (.int .i64 64)) none).run Tryd.prog W = .ok (.slice A 64 c) W from slice_h sB zB A m c 64 (by omega) W)
          have SLL := Lib.hid (fun W : World => show (Instr.sliceAt 22 (.slice A m c) (some (.int .i64 64)) none none).run Tryd.prog W = .ok (.slice (if c = 64 then A else A.map (·.add 64)) (m - 64) (c - 64)) W from slice_l sB zB A m c 64 hlt W)
          have hcut := T.out.cut (k := 64) (cap := c) hlt hmc
          rw [nums_drop, List.drop_drop, show 64 * k + 64 = 64 * (k + 1) by omega] at hcut
          generalize (if c = 64 then A else A.map (·.add 64)) = A' at *
          have HCUT := Lib.hid hcut
          obtain ⟨ad, rfl, _⟩ := T.out.1.2 (by omega)
          have CL := Lib.hid (fun (W : World) (hW : New wr W) => show ∀ j v, (nums .u8 (blkN (msgL l) k))[j]? = some v → W.cell? (ad.add j) = some v by
            have h2 := ((T.out.below hW).1.take (k := 64) hlt)
            rw [Nat.mul_one, nums_take] at h2
            obtain ⟨ad2, e2, _, h3⟩ := h2.2 (by omega)
            obtain rfl := Option.some.inj e2
            exact h3)
          have HB64 := Lib.hid hb64
          have CP := Lib.hid (fun (W : World) (hW : New w W) => compress_any (w := W) (foldK (msgL l) k) (foldK_ok _ _) (blkN (msgL l) k) hb64 hb8 (HC.out.new hW))
          have hst : compS (foldK (msgL l) k) (blkN (msgL l) k) = foldK (msgL l) (k + 1) := rfl
          rw [hst] at CP
          have HM3 := Lib.hid (show m - 64 = (msgL l).length - 64 * (k + 1) by have := HM.out; omega)
          have HKL3 := Lib.hid (show 64 * (k + 1) ≤ (msgL l).length by omega)
          clear hb64 hb8 hcut hst hm2 HM HKL
          go_wp2
          refine wp_region_upT New 6 [(0, 0), (1, 1), (1, 2), (1, 3), (0, 4), (2, 5), (2, 6)]
            New.refl New.trans (by kernel_rfl) (by kernel_rfl) (by kernel_rfl) (by kernel_rfl) ?_
          have hU := New.trans b.out (New.drew wr)
          refine upT_quiet rfl rfl (v := .agg (cellsS (foldK (msgL l) k))) (fun W hW => exec_load_row rfl (S.out.below (New.trans (New.drew wr) hW) S.out.lt) u32arr rfl (i8w _)) ?_
          simp only [Act.put, List.setIfInBounds_toArray, List.set_cons_zero, List.set_cons_succ]
          refine upT_pure rfl rfl (v := ?_) (fun W => ?_) ?_
          rotate_left
          · go_simp <;> with_reducible rfl
          simp only [Act.put, List.setIfInBounds_toArray, List.set_cons_zero, List.set_cons_succ]
          refine upT_pure rfl rfl (v := .slice (some ad) 64 c) (fun W => exec_slice (SLH.out W)) ?_
          simp only [Act.put, List.setIfInBounds_toArray, List.set_cons_zero, List.set_cons_succ]
          refine upT_pure rfl rfl (v := .pointer (some ad)) (fun W => exec_arrayAt rfl u8arr (Nat.le_refl _)) ?_
          simp only [Act.put, List.setIfInBounds_toArray, List.set_cons_zero, List.set_cons_succ]
          refine upT_quiet rfl rfl (v := .agg (nums .u8 (blkN (msgL l) k)).toArray) (fun W hW => exec_load_at rfl (CL.out W (New.trans (New.drew wr) hW)) u8arr rfl (i64b HB64.out)) ?_
          simp only [Act.put, List.setIfInBounds_toArray, List.set_cons_zero, List.set_cons_succ]
          refine upT_call rfl rfl (fun K hK => ?_)
          go_simp
          (with_reducible refine (CP.out _ hU).mono ?_)
          rintro e9 w9 ⟨rfl, c9⟩
          refine hK _ _ (.inr (.inr c9)) ?_
          clear hK
          have hN := New.trans (New.drew wr) c9
          have S9 := S.out.below hN S.out.lt
          have D9 := D.out.below hN D.out.lt
          have T9 := HCUT.out.below hN
          have b9 := New.trans hU c9
          refine upT_call rfl rfl (fun K hK => ?_)
          refine wp_store_row 29 (.tmp 3) (.tmp 46) rfl G (cellsS (foldK (msgL l) (k + 1))) rfl rfl _ _ (row_of_blk S9) (i8w _) rfl (cellsS_one _) ?_
          refine hK _ _ (.inr (.inl rfl)) ?_
          clear hK
          refine upT_nil ?_
          have hF := far_setRow (g := G) w9 (cellsS (foldK (msgL l) (k + 1)))
          have S10 := Lib.hid (blk_setRow S9 (cellsS (foldK (msgL l) (k + 1))))
          have D10 := Lib.hid (D9.grown hF (by simp; omega))
          have T10 := Lib.hid (T9.keep hF S9 (by decide))
          have B10 := Lib.hid (New.far b9 hF (by omega))
          clear S9 D9 T9 b9 hN hU hF CP CL SLH c9 HCUT
          go_wp2_with (refine wpList_slice rfl 22 (.tmp 47) (some (.const (.int .i64 64))) none none rfl (SLL.out _) ?_)
          go_roundw
          case rel => exact ⟨k + 1, m - 64, c - 64, A', HM3, HKL3, rfl, by omega, T10, S10, D10, B10⟩
          case measure => simp [lenOf]; omega
        · have hk : foldK (msgL l) k = sumS l := by
            unfold sumS
            congr 1
            have := HM.out
            have := HKL.out
            have := HMM.out
            omega
          rw [hk] at S
          clear hk T HM HKL
          obtain ⟨W5, hW5⟩ : ∃ W, W = wr.alloc (.cells (ints .u8 zero32).toArray 25) := ⟨_, rfl⟩
          have c5 : New wr W5 := by rw [hW5]; exact (Below.refl _ _).alloc (Nat.le_refl _) _
          have E5 : Blk W5 wr.heap.size 25 (ints .u8 (pad32 ((digI (sumS l)).take 0))).toArray := by rw [hW5]; exact Blk.new _ _ _
          have S5 := Lib.hid (S.out.below c5 S.out.lt)
          have D5 := Lib.hid (D.out.below c5 D.out.lt)
          have B5 := Lib.hid (New.trans b.out c5)
          have HE5 := Lib.hid E5
          have hGE : G < wr.heap.size := S.out.lt
          have HW5 := Lib.hid (show wr.alloc (.cells (ints .u8 zero32).toArray 25) = W5 from hW5.symm)
          clear c5 E5 S D b hW5
          go_wp2
          have hW := HW5.out
          rw [show (ints .u8 zero32).toArray = #[.int .u8 0, .int .u8 0, .int .u8 0, .int .u8 0, .int .u8 0, .int .u8 0, .int .u8 0, .int .u8 0, .int .u8 0, .int .u8 0, .int .u8 0, .int .u8 0, .int .u8 0, .int .u8 0, .int .u8 0, .int .u8 0, .int .u8 0, .int .u8 0, .int .u8 0, .int .u8 0, .int .u8 0, .int .u8 0, .int .u8 0, .int .u8 0, .int .u8 0, .int .u8 0, .int .u8 0, .int .u8 0, .int .u8 0, .int .u8 0, .int .u8 0, .int .u8 0] from rfl] at hW
          rw [hW]
          clear hW HW5
          have hE0 : w.heap.size < wr.heap.size := by have := HE5.out.lt; omega
          generalize wr.heap.size = E at *
          go_loopw [49] (fun i wr => ∃ k : Nat, k ≤ 32 ∧ i = .int .i64 (k : Int) ∧ Hid (Blk wr E 25 (ints .u8 (pad32 ((digI (sumS l)).take k))).toArray) ∧ Hid (Blk wr G 29 (cellsS (sumS l))) ∧ Hid (Blk wr w.heap.size 25 (ints .u8 zero32).toArray) ∧ Hid (New w wr)) (fun i _ => 32 - (intOf i).toNat)
          case atStart => exact ⟨0, by omega, rfl, HE5, S5, D5, B5⟩
          case round =>
            clear HE5 S5 D5 B5
            obtain ⟨k, hk, rfl, T, S, D, b⟩ := hrel
            by_cases hlk : k < 32
            · obtain ⟨q, hq⟩ : ∃ x, x = k / 4 := ⟨_, rfl⟩
              obtain ⟨r4, hr4⟩ : ∃ x, x = k % 4 := ⟨_, rfl⟩
              obtain ⟨sh, hsh⟩ : ∃ x, x = 24 - r4 * 8 := ⟨_, rfl⟩
              have i1 : (k : Int) / 4 = (q : Int) := by omega
              have i2 : (k : Int).tdiv 4 = (q : Int) := by rw [Int.tdiv_eq_ediv_of_nonneg (by omega)]; omega
              have i3 : (k : Int) % 4 = (r4 : Int) := by omega
              have i4 : (k : Int).tmod 4 = (r4 : Int) := by rw [Int.tmod_eq_emod_of_nonneg (by omega)]; omega
              have i5 : (24 : Int) - (r4 : Int) * 8 = (sh : Int) := by omega
              have j1 : (q : Int) < 8 := by omega
              have j2 : (k : Int) < 32 := by omega
              have s1 := S.out
              rw [cellsS_words] at s1
              have c1 := blk_cell (i := q) s1 (by simp [wordsL]; omega)
              obtain ⟨y, hy⟩ : ∃ y, y = digB (sumS l) k := ⟨_, rfl⟩
              have v1 : (wordsL (sumS l)).getD q 0 / 2 ^ sh % 256 = y := by rw [hy, hsh, hr4, hq]; rfl
              have htk : ((digI (sumS l)).take k).length = k := by rw [List.length_take, digI_len]; omega
              have c2 := blk_cell (i := k) T.out (by rw [pad32_len (by rw [htk]; omega)]; exact hlk)
              have f2 := T.out.frozen k
              have t3 := blk_setI T.out (i := k) y
              have hset := pad32_set (l := (digI (sumS l)).take k) (by rw [htk]; exact hlk) y
              rw [htk, hy, ← digI_take hlk, ← hy] at hset
              rw [hset] at t3
              have hF : Far E wr (wr.setCell ⟨E, k, none⟩ (.int .u8 y)) := far_set _ _
              have T3 := Lib.hid t3
              have S3 := Lib.hid (S.out.grown hF (by simp; omega))
              have D3 := Lib.hid (D.out.grown hF (by simp; omega))
              have B3 := Lib.hid (New.far b.out hF (by omega))
              generalize (wordsL (sumS l)).getD q 0 = x at *
              have hs24 : sh ≤ 24 := by omega
              clear hq hr4 hsh s1 hy htk t3 hset hF T S D b
              go_wp2
              go_roundw
              case rel => exact ⟨k + 1, by omega, by go_num, T3, S3, D3, B3⟩
              case measure => simp [intOf]; omega
            · obtain rfl : k = 32 := by omega
              have t3 := T.out
              rw [List.take_of_length_le (by rw [digI_len]; omega), pad32_full (digI_len _)] at t3
              have hz : (ints .u8 zero32).toArray.size = (ints .u8 (digI (sumS l))).toArray.size := by simp [ints, zero32, digI_len]
              have H := Lib.hid (And.intro (row_of_blk t3) (And.intro (row_of_blk D.out) (And.intro (i32d (digI_len (sumS l))) (And.intro hz (And.intro (ints_one .u8 (digI (sumS l))) (blk_setRow D.out (ints .u8 (digI (sumS l))).toArray))))))
              have bE := New.far b.out (far_setRow (g := w.heap.size) wr (ints .u8 (digI (sumS l))).toArray) (Nat.le_refl _)
              have BE := Lib.hid bE
              have hS : digI (sumS l) = sumI l := rfl
              rw [hS] at H BE
              generalize (ints .u8 (sumI l)).toArray = cs at *
              clear t3 hz bE hS T S D b
              go_wp2_with (first
                | (refine wpList_load_row rfl 25 (.tmp 7) rfl E rfl _ cs _ _ H.out.1 digarr rfl H.out.2.2.1 ?_)
                | (refine wpList_store_row rfl 25 (.tmp 2) (.tmp 65) rfl w.heap.size cs rfl rfl _ _ H.out.2.1 H.out.2.2.1 H.out.2.2.2.1 H.out.2.2.2.2.1 ?_))
              exact bodyPost_ret (results_cell_row rfl _ _ w.heap.size _ cs (0, 0) _ rfl H.out.2.2.2.2.2 digarr rfl H.out.2.2.1) rfl ⟨rfl, BE.out⟩

end Go.Proofs.YtglghnnmfplmdaaDoor
