/- Texts merged, for a claim has at most 60 files: ShaU, ShaX, Law, Trod, Held, Rec, PackM, TagM, TagX. -/
import Derived.Carry
import Derived.Deep.Fields
import Derived.Deep.Slices
import Derived.OpenShut
import Derived.SizedLaws
import Derived.Test.YtgfemjpeegbhhaaDoorBun1
import Derived.Test.YtgfemjpeegbhhaaDoorBun2
/- Contract on sha.Sum. -/

namespace Go.Hm
open Go Go.RowKit
def zero32 : List Int := List.replicate 32 0
theorem slice_l {P : Program} {t : TypeId} (ht : P.underlying t = some (.slice (P.elem t))) (hs : ∀ w, (sizeOf (P.elem t)).run P w = .ok 1 w) (A : Option Addr) (n c k : Nat) (hk : k ≤ n) (w : World) :
    (Instr.sliceAt t (.slice A n c) (some (.int .i64 (k : Int))) none none).run P w = .ok (.slice (if c = k then A else A.map (·.add k)) (n - k) (c - k)) w := by
  rw [run_sliceAt_slice w t _ _ _ _ ht, run_slice_l w t A n c ht .i64 (k : Int) (by omega) (by omega), hs]
  simp [Result.andThen, sliced]
theorem slice_lh {P : Program} {t : TypeId} (ht : P.underlying t = some (.slice (P.elem t))) (hs : ∀ w, (sizeOf (P.elem t)).run P w = .ok 1 w) (A : Option Addr) (n c k m : Nat) (hk : k ≤ m) (hc : m ≤ c) (w : World) :
    (Instr.sliceAt t (.slice A n c) (some (.int .i64 (k : Int))) (some (.int .i64 (m : Int))) none).run P w = .ok (.slice (if c = k then A else A.map (·.add k)) (m - k) (c - k)) w := by
  rw [run_sliceAt_slice w t _ _ _ _ ht, run_slice_lh w t A n c ht .i64 .i64 (k : Int) (m : Int) (by omega) (by omega) (by omega), hs]
  simp [Result.andThen, sliced]
theorem slice_h {P : Program} {t : TypeId} (ht : P.underlying t = some (.slice (P.elem t))) (hs : ∀ w, (sizeOf (P.elem t)).run P w = .ok 1 w) (A : Option Addr) (n c m : Nat) (hc : m ≤ c) (w : World) :
    (Instr.sliceAt t (.slice A n c) none (some (.int .i64 (m : Int))) none).run P w = .ok (.slice A m c) w := by
  rw [run_sliceAt_slice w t _ _ _ _ ht, run_slice_h w t A n c ht .i64 (m : Int) (by omega) (by omega), hs]
  have e : ∀ a : Addr, a.add 0 = a := add_zero'
  cases A <;> simp [Result.andThen, sliced, e]

end Go.Hm

namespace Go.Proofs.YtgfemjpeegbhhaaDoor
open Go.RowKit Go.Hm
theorem sB : Tryd.prog.underlying 22 = some (.slice (Tryd.prog.elem 22)) := by kernel_rfl
theorem zB : ∀ w, (sizeOf (Tryd.prog.elem 22)).run Tryd.prog w = .ok 1 w := fun w => by
  have h : (Tryd.prog.info? (Tryd.prog.elem 22)).map (·.size) = some 1 := by kernel_rfl
  cases hq : Tryd.prog.info? (Tryd.prog.elem 22) with
  | none => rw [hq] at h; cases h
  | some i =>
    rw [hq] at h
    have : i.size = 1 := by simpa using h
    simp [sizeOf, typeInfo, hq, this]
theorem u8arr : Tryd.prog.underlying 74 = some (.array 64 5) := by kernel_rfl
theorem u32arr : Tryd.prog.underlying 71 = some (.array 8 70) := by kernel_rfl
theorem digarr : Tryd.prog.underlying 32 = some (.array 32 5) := by kernel_rfl
theorem i64b {l : List Nat} (h : l.length = 64) : (Tryd.prog.info? 74).map (·.size) = some (nums .u8 l).length := by
  rw [nums_length, h]
  kernel_rfl
theorem i8w (s : S8) : (Tryd.prog.info? 71).map (·.size) = some (cellsS s).size := by
  rw [show (cellsS s).size = 8 from rfl]
  kernel_rfl
theorem i32d {l : List Int} (h : l.length = 32) : (Tryd.prog.info? 32).map (·.size) = some (ints .u8 l).toArray.size := by
  rw [show (ints .u8 l).toArray.size = 32 by simp [ints, h]]
  kernel_rfl
set_option maxHeartbeats 2000000 in
set_option maxRecDepth 100000 in
theorem sum_any {w : World} {A : Option Addr} {n c : Nat} {l : List Nat} (h : Reads w w.heap.size 1 A n (nums .u8 l)) (h8 : ∀ x ∈ l, x < 256) (hc : n ≤ c) (hn : n ≤ 1000000) (hC : ConstIn w) :
    Calls Tryd.prog 28 #[.slice A n c] w (NewPost (.agg (ints .u8 (sumI l)).toArray) w) := by
  obtain rfl := h.len
  obtain ⟨r, hr⟩ : ∃ r, r = l.length % 64 := ⟨_, rfl⟩
  obtain ⟨wh, hwh⟩ : ∃ r, r = l.length - l.length % 64 := ⟨_, rfl⟩
  have e1 : (l.length : Int) % 64 = (r : Int) := by omega
  have e2 : (l.length : Int).tmod 64 = (r : Int) := by rw [Int.tmod_eq_emod_of_nonneg (by omega)]; omega
  have e3 : (l.length : Int) - (r : Int) = (wh : Int) := by omega
  have hw64 : wh % 64 = 0 := by omega
  have hwl : wh ≤ l.length := by omega
  have HR := Lib.hid h
  have HC := Lib.hid hC
  have HH := Lib.hid h8
  have HW64 := Lib.hid hw64
  have HM8 := Lib.hid (msgL_lt h8)
  have HML := Lib.hid (msgL_len l)
  have HMM := Lib.hid (msgL_mod l)
  have HPL := Lib.hid (padL_len l.length)
  clear h hC h8 hr hwh hw64
  go_enter Tryd.func28, Tryd.ntmps28
  go_wp2_with fail
  obtain ⟨W0, hW0⟩ : ∃ W, W = w.alloc (.cells (ints .u8 zero32).toArray 32) := ⟨_, rfl⟩
  have b0 : New w W0 := by rw [hW0]; exact (Below.refl _ _).alloc (Nat.le_refl _) _
  have D0 : Blk W0 w.heap.size 32 (ints .u8 zero32).toArray := by rw [hW0]; exact Blk.new _ _ _
  refine (first_any).mono ?_
  rintro e w1 ⟨rfl, b1⟩
  have b1 : New W0 w1 := by rw [hW0]; exact b1
  have D1 := D0.below b1 D0.lt
  have b01 := New.trans b0 b1
  have HB1 := Lib.hid b01
  have HD1 := Lib.hid D1
  clear hW0 b0 D0 b1 D1 b01
  go_wp2_with (first | (refine wpList_store_row rfl 71 (.tmp 3) (.tmp 9) rfl w1.heap.size (cellsS firstS) rfl rfl _ _ (heap_alloc_new _ _) (i8w _) rfl (cellsS_one _) ?_; rw [alloc_setRow]) | fail)
  obtain ⟨W2, hW2⟩ : ∃ W, W = w1.alloc (.cells (cellsS firstS) 71) := ⟨_, rfl⟩
  have c2 : New w1 W2 := by rw [hW2]; exact (Below.refl _ _).alloc (Nat.le_refl _) _
  have G2 : Blk W2 w1.heap.size 71 (cellsS (foldK (msgL l) 0)) := by rw [hW2]; exact Blk.new _ _ _
  have D2 := Lib.hid (HD1.out.below c2 HD1.out.lt)
  have B2 := Lib.hid (New.trans HB1.out c2)
  have hG : w.heap.size < w1.heap.size := HD1.out.lt
  have HG2 := Lib.hid G2
  rw [← hW2]
  generalize w1.heap.size = G at *
  clear hW2 c2 G2 HB1 HD1 e1 e2 e3
  go_loopw [5] (fun i wr => ∃ k a : Nat, Hid (a = 64 * k) ∧ a ≤ wh ∧ i = .int .i64 (a : Int) ∧ Hid (Blk wr G 71 (cellsS (foldK (msgL l) k))) ∧ Hid (Blk wr w.heap.size 32 (ints .u8 zero32).toArray) ∧ Hid (New w wr)) (fun i _ => wh - (intOf i).toNat)
  case atStart => exact ⟨0, 0, Lib.hid rfl, by omega, rfl, HG2, D2, B2⟩
  case round =>
    clear HG2 D2 B2
    obtain ⟨k, a, HA, ha, rfl, S, D, b⟩ := hrel
    by_cases hlt : a < wh
    · obtain ⟨a2, ha2⟩ : ∃ x, x = a + 64 := ⟨_, rfl⟩
      have hle : a2 ≤ wh := by have := HA.out; have := HW64.out; omega
      have i2 : IntKind.i64.wrap ((a : Int) + 64) = (a2 : Int) := by rw [IntKind.wrap_i64]; omega
      have SL := Lib.hid (fun W : World => slice_lh sB zB A l.length c a a2 (by omega) (by omega) W)
      have hb := blkN_head (l := l) (k := k) (by rw [← HA.out]; omega)
      have hb64 : (blkN (msgL l) k).length = 64 := blkN_len (by rw [← HA.out, HML.out]; omega)
      have hb8 := blkN_lt (k := k) HM8.out
      rw [← HA.out] at hb
      have hcut := fun (W : World) (hW : New w W) => ((Reads.later HR.out hW).cut (k := a) (cap := c) (by omega) hc).take (k := 64) (by omega)
      have CELL := Lib.hid (fun (W : World) (hW : New w W) => show ∃ ad, (if c = a then A else A.map (·.add a)) = some ad ∧ ∀ j v, (nums .u8 (blkN (msgL l) k))[j]? = some v → W.cell? (ad.add j) = some v by
        obtain ⟨ad, h1, _, h3⟩ := (hcut W hW).2 (by omega)
        rw [Nat.mul_one, Nat.mul_one] at *
        rw [nums_drop, nums_take, ← hb] at h3
        exact ⟨ad, h1, h3⟩)
      have HZ := Lib.hid (show a2 - a = 64 by omega)
      generalize (if c = a then A else A.map (·.add a)) = AA at *
      have SL2 := Lib.hid (fun W : World => (show (Instr.sliceAt 22 (.slice A l.length c) (some (.int .i64 (a : Int))) (some (.int .i64 (a2 : Int))) none).run Tryd.prog W = .ok (.slice AA 64 (c - a)) W by have := SL.out W; rwa [HZ.out] at this))
      have HB64 := Lib.hid hb64
      have HB8 := Lib.hid hb8
      have CP := Lib.hid (fun (W : World) (hW : New w W) => compress_any (w := W) (foldK (msgL l) k) (foldK_ok _ _) (blkN (msgL l) k) hb64 hb8 (HC.out.new hW))
      have hst : compS (foldK (msgL l) k) (blkN (msgL l) k) = foldK (msgL l) (k + 1) := rfl
      rw [hst] at CP
      clear hb hb64 hb8 hcut hst SL
      obtain ⟨ad, rfl, _⟩ := CELL.out wr b.out
      have CL := Lib.hid (fun (W : World) (hW : New w W) => show ∀ j v, (nums .u8 (blkN (msgL l) k))[j]? = some v → W.cell? (ad.add j) = some v by
        obtain ⟨ad2, h1, h2⟩ := CELL.out W hW
        obtain rfl := Option.some.inj h1
        exact h2)
      have HA2 := Lib.hid ha2
      clear CELL ha2
      go_wp2
      refine wp_region_upT New 9 [(0, 0), (1, 1), (1, 2), (1, 3), (1, 4), (1, 5), (1, 6), (0, 7), (2, 8), (2, 9)]
        New.refl New.trans (by kernel_rfl) (by kernel_rfl) (by kernel_rfl) (by kernel_rfl) ?_
      have hU := New.trans b.out (New.drew wr)
      refine upT_quiet rfl rfl (v := .agg (cellsS (foldK (msgL l) k))) (fun W hW => exec_load_row rfl (S.out.below (New.trans (New.drew wr) hW) S.out.lt) u32arr rfl (i8w _)) ?_
      simp only [Act.put, List.setIfInBounds_toArray, List.set_cons_zero, List.set_cons_succ]
      iterate 4 (
        refine upT_pure rfl rfl (v := ?_) (fun W => ?_) ?_
        rotate_left
        · go_simp <;> with_reducible rfl
        simp only [Act.put, List.setIfInBounds_toArray, List.set_cons_zero, List.set_cons_succ])
      refine upT_pure rfl rfl (v := .slice (some ad) 64 (c - a)) (fun W => exec_slice (SL2.out W)) ?_
      simp only [Act.put, List.setIfInBounds_toArray, List.set_cons_zero, List.set_cons_succ]
      refine upT_pure rfl rfl (v := .pointer (some ad)) (fun W => exec_arrayAt rfl u8arr (Nat.le_refl _)) ?_
      simp only [Act.put, List.setIfInBounds_toArray, List.set_cons_zero, List.set_cons_succ]
      refine upT_quiet rfl rfl (v := .agg (nums .u8 (blkN (msgL l) k)).toArray) (fun W hW => exec_load_at rfl (CL.out W (New.trans hU hW)) u8arr rfl (i64b HB64.out)) ?_
      simp only [Act.put, List.setIfInBounds_toArray, List.set_cons_zero, List.set_cons_succ]
      refine upT_call rfl rfl (fun K hK => ?_)
      go_simp
      (with_reducible refine (CP.out _ hU).mono ?_)
      rintro e9 w9 ⟨rfl, c9⟩
      refine hK _ _ (.inr (.inr c9)) ?_
      clear hK
      have hN := New.trans (New.drew wr) c9
      have S9 := S.out.below hN S.out.lt
      have D9 := D.out.below hN D.out.lt
      have b9 := New.trans hU c9
      refine upT_call rfl rfl (fun K hK => ?_)
      refine wp_store_row 71 (.tmp 3) (.tmp 29) rfl G (cellsS (foldK (msgL l) (k + 1))) rfl rfl _ _ (row_of_blk S9) (i8w _) rfl (cellsS_one _) ?_
      refine hK _ _ (.inr (.inl rfl)) ?_
      clear hK
      refine upT_nil ?_
      have hF := far_setRow (g := G) w9 (cellsS (foldK (msgL l) (k + 1)))
      have S10 := Lib.hid (blk_setRow S9 (cellsS (foldK (msgL l) (k + 1))))
      have D10 := Lib.hid (D9.grown hF (by simp; omega))
      have B10 := Lib.hid (New.far b9 hF (by omega))
      have HA3 := Lib.hid (show a2 = 64 * (k + 1) by rw [HA2.out, HA.out]; omega)
      have e4 : (a : Int) + 64 = (a2 : Int) := by have := HA2.out; omega
      clear S9 D9 b9 hN hU hF i2 CP CL SL2 c9
      go_wp2
      go_roundw
      case rel => exact ⟨k + 1, a2, HA3, hle, rfl, S10, D10, B10⟩
      case measure => simp [intOf]; omega
    · have haw : a = wh := by omega
      have HK := Lib.hid (show wh = 64 * k by rw [← haw]; exact HA.out)
      subst haw
      have SL := Lib.hid (fun W : World => slice_l sB zB A l.length c a hwl W)
      have hcut := (Reads.later HR.out b.out).cut (k := a) (cap := c) hwl hc
      rw [Nat.mul_one, nums_drop] at hcut
      generalize (if c = a then A else A.map (·.add a)) = A3 at *
      have hPO : padO (l.length : Int) = padL l.length := by unfold padO; rw [if_pos (by omega), Int.toNat_natCast]
      have hpl : (padL l.length).length ≤ 72 := by rw [padL_len]; unfold zerosN; omega
      have PD := Lib.hid (fun W : World => pad_any (w := W) (l.length : Int))
      rw [hPO] at PD
      have hdl : (l.drop a).length = l.length - a := List.length_drop
      have hnl : (msgL l).drop a = l.drop a ++ padL l.length := by unfold msgL; rw [List.drop_append_of_le_length hwl]
      have HNL := Lib.hid hnl
      have HCUT := Lib.hid hcut
      have z0 := b.out.size
      have HPL2 := Lib.hid hpl
      have HDL := Lib.hid hdl
      clear hcut hPO hnl hpl hdl HPL
      go_wp2_with (first
        | (refine wpList_slice rfl 22 (.tmp 30) (some (.tmp 31)) none none rfl (SL.out wr) ?_)
        | (refine wpList_pushesN elB rfl (.const (.slice none 0 0)) (.tmp 32) rfl (W := w) (B := w.heap.size) (base := w.heap.size) (l := []) Own.nil_ HCUT.out rfl rfl b.out (Nat.le_refl _) z0 (by omega) (by simp only [maxLen]; omega) ?_
           intro A8 c8 w8 _ _ o8 g8 b8 _))
      have S8 := Lib.hid (S.out.grown g8 (by simp [Value.ownBlock]))
      have D8 := Lib.hid (D.out.grown g8 (by simp [Value.ownBlock]))
      rw [List.nil_append, Nat.zero_add] at o8
      have O8 := Lib.hid o8
      have B8 := Lib.hid b8
      clear g8 o8 b8 z0 S D
      refine (PD.out _).mono ?_
      rintro e w9 ⟨A9, n9, c9, rfl, o9, b9⟩
      have r9 := o9.reads
      obtain rfl := r9.len
      have o89 := O8.out.later b9
      have S9 := Lib.hid (S8.out.below b9 S8.out.lt)
      have D9 := Lib.hid (D8.out.below b9 D8.out.lt)
      have b09 := New.trans B8.out b9
      have z9 := b09.size
      have hsum : l.length - a + (padL l.length).length ≤ 1000100 := by have := HPL2.out; omega
      clear o9 PD SL HCUT O8 B8 S8 D8 b9
      go_wp2_with (refine wpList_pushesN elB rfl (.tmp 33) (.tmp 36) rfl (W := w) (B := w.heap.size) (base := w.heap.size) o89 r9 rfl rfl b09 (Nat.le_refl _) z9 (by omega) (by simp only [maxLen]; omega) ?_
                   intro A10 c10 w10 hc10 _ o10 g10 b10 _)
      have S10 := Lib.hid (S9.out.push o89 g10 (by decide))
      have D10 := Lib.hid (D9.out.push o89 g10 (by decide))
      rw [← HNL.out, show (msgL l).drop a = (msgL l).drop (64 * k) by rw [HK.out]] at o10
      have T10 := Lib.hid (TR.of_own o10)
      have B10 := Lib.hid b10
      have HM := Lib.hid (show l.length - a + (padL l.length).length = (msgL l).length - 64 * k by rw [HML.out, ← HK.out]; omega)
      have HKL := Lib.hid (show 64 * k ≤ (msgL l).length by rw [HML.out, ← HK.out]; omega)
      have hs2 : l.length - a + (padL l.length).length ≤ c10 := by omega
      have hcm : c10 ≤ maxLen := by assumption
      generalize l.length - a + (padL l.length).length = m10 at *
      clear o89 r9 g10 b09 b10 z9 o10 S9 D9 HNL hsum hwl HPL2 HDL
      have HM2 := Lib.hid (show m10 = (msgL l).length - 64 * k from HM.out)
      clear HM HA HK
      go_loopw [6] (fun v wr => ∃ (k m c : Nat) (A : Option Addr), Hid (m = (msgL l).length - 64 * k) ∧ Hid (64 * k ≤ (msgL l).length) ∧ v = .slice A m c ∧ m ≤ c ∧ Hid (TR wr 5 A m (nums .u8 ((msgL l).drop (64 * k)))) ∧ Hid (Blk wr G 71 (cellsS (foldK (msgL l) k))) ∧ Hid (Blk wr w.heap.size 32 (ints .u8 zero32).toArray) ∧ Hid (New w wr)) (fun v _ => lenOf v)
      case atStart => exact ⟨k, m10, c10, A10, HM2, HKL, rfl, hs2, T10, S10, D10, B10⟩
      case round =>
        clear HM2 HKL T10 S10 D10 B10
        obtain ⟨k, m, c, A, HM, HKL, rfl, hmc, T, S, D, b⟩ := hrel
        by_cases hlt : 64 ≤ m
        · have hm2 : 64 * k + 64 ≤ (msgL l).length := by have := HM.out; have := HKL.out; omega
          have hb64 : (blkN (msgL l) k).length = 64 := blkN_len hm2
          have hb8 := blkN_lt (k := k) HM8.out
          have SLH := Lib.hid (fun W : World => show (Instr.sliceAt 22 (.slice A m c) none (some (.int .i64 64)) none).run Tryd.prog W = .ok (.slice A 64 c) W from slice_h sB zB A m c 64 (by omega) W)
          have SLL := Lib.hid (fun W : World => show (Instr.sliceAt 22 (.slice A m c) (some (.int .i64 64)) none none).run Tryd.prog W = .ok (.slice (if c = 64 then A else A.map (·.add 64)) (m - 64) (c - 64)) W from slice_l sB zB A m c 64 hlt W)
          have hcut := T.out.cut (k := 64) (cap := c) hlt hmc
          rw [nums_drop, List.drop_drop, show 64 * k + 64 = 64 * (k + 1) by omega] at hcut
          generalize (if c = 64 then A else A.map (·.add 64)) = A' at *
          have HCUT := Lib.hid hcut
          obtain ⟨ad, rfl, _⟩ := T.out.1.2 (by omega)
          have CL := Lib.hid (fun (W : World) (hW : New wr W) => show ∀ j v, (nums .u8 (blkN (msgL l) k))[j]? = some v → W.cell? (ad.add j) = some v by
            have h2 := ((T.out.below hW).1.take (k := 64) hlt)
            rw [Nat.mul_one, nums_take] at h2
            obtain ⟨ad2, e2, _, h3⟩ := h2.2 (by omega)
            obtain rfl := Option.some.inj e2
            exact h3)
          have HB64 := Lib.hid hb64
          have CP := Lib.hid (fun (W : World) (hW : New w W) => compress_any (w := W) (foldK (msgL l) k) (foldK_ok _ _) (blkN (msgL l) k) hb64 hb8 (HC.out.new hW))
          have hst : compS (foldK (msgL l) k) (blkN (msgL l) k) = foldK (msgL l) (k + 1) := rfl
          rw [hst] at CP
          have HM3 := Lib.hid (show m - 64 = (msgL l).length - 64 * (k + 1) by have := HM.out; omega)
          have HKL3 := Lib.hid (show 64 * (k + 1) ≤ (msgL l).length by omega)
          clear hb64 hb8 hcut hst hm2 HM HKL
          go_wp2
          refine wp_region_upT New 6 [(0, 0), (1, 1), (1, 2), (1, 3), (0, 4), (2, 5), (2, 6)]
            New.refl New.trans (by kernel_rfl) (by kernel_rfl) (by kernel_rfl) (by kernel_rfl) ?_
          have hU := New.trans b.out (New.drew wr)
          refine upT_quiet rfl rfl (v := .agg (cellsS (foldK (msgL l) k))) (fun W hW => exec_load_row rfl (S.out.below (New.trans (New.drew wr) hW) S.out.lt) u32arr rfl (i8w _)) ?_
          simp only [Act.put, List.setIfInBounds_toArray, List.set_cons_zero, List.set_cons_succ]
          refine upT_pure rfl rfl (v := ?_) (fun W => ?_) ?_
          rotate_left
          · go_simp <;> with_reducible rfl
          simp only [Act.put, List.setIfInBounds_toArray, List.set_cons_zero, List.set_cons_succ]
          refine upT_pure rfl rfl (v := .slice (some ad) 64 c) (fun W => exec_slice (SLH.out W)) ?_
          simp only [Act.put, List.setIfInBounds_toArray, List.set_cons_zero, List.set_cons_succ]
          refine upT_pure rfl rfl (v := .pointer (some ad)) (fun W => exec_arrayAt rfl u8arr (Nat.le_refl _)) ?_
          simp only [Act.put, List.setIfInBounds_toArray, List.set_cons_zero, List.set_cons_succ]
          refine upT_quiet rfl rfl (v := .agg (nums .u8 (blkN (msgL l) k)).toArray) (fun W hW => exec_load_at rfl (CL.out W (New.trans (New.drew wr) hW)) u8arr rfl (i64b HB64.out)) ?_
          simp only [Act.put, List.setIfInBounds_toArray, List.set_cons_zero, List.set_cons_succ]
          refine upT_call rfl rfl (fun K hK => ?_)
          go_simp
          (with_reducible refine (CP.out _ hU).mono ?_)
          rintro e9 w9 ⟨rfl, c9⟩
          refine hK _ _ (.inr (.inr c9)) ?_
          clear hK
          have hN := New.trans (New.drew wr) c9
          have S9 := S.out.below hN S.out.lt
          have D9 := D.out.below hN D.out.lt
          have T9 := HCUT.out.below hN
          have b9 := New.trans hU c9
          refine upT_call rfl rfl (fun K hK => ?_)
          refine wp_store_row 71 (.tmp 3) (.tmp 46) rfl G (cellsS (foldK (msgL l) (k + 1))) rfl rfl _ _ (row_of_blk S9) (i8w _) rfl (cellsS_one _) ?_
          refine hK _ _ (.inr (.inl rfl)) ?_
          clear hK
          refine upT_nil ?_
          have hF := far_setRow (g := G) w9 (cellsS (foldK (msgL l) (k + 1)))
          have S10 := Lib.hid (blk_setRow S9 (cellsS (foldK (msgL l) (k + 1))))
          have D10 := Lib.hid (D9.grown hF (by simp; omega))
          have T10 := Lib.hid (T9.keep hF S9 (by decide))
          have B10 := Lib.hid (New.far b9 hF (by omega))
          clear S9 D9 T9 b9 hN hU hF CP CL SLH c9 HCUT
          go_wp2_with (refine wpList_slice rfl 22 (.tmp 47) (some (.const (.int .i64 64))) none none rfl (SLL.out _) ?_)
          go_roundw
          case rel => exact ⟨k + 1, m - 64, c - 64, A', HM3, HKL3, rfl, by omega, T10, S10, D10, B10⟩
          case measure => simp [lenOf]; omega
        · have hk : foldK (msgL l) k = sumS l := by
            unfold sumS
            congr 1
            have := HM.out
            have := HKL.out
            have := HMM.out
            omega
          rw [hk] at S
          clear hk T HM HKL
          obtain ⟨W5, hW5⟩ : ∃ W, W = wr.alloc (.cells (ints .u8 zero32).toArray 32) := ⟨_, rfl⟩
          have c5 : New wr W5 := by rw [hW5]; exact (Below.refl _ _).alloc (Nat.le_refl _) _
          have E5 : Blk W5 wr.heap.size 32 (ints .u8 (pad32 ((digI (sumS l)).take 0))).toArray := by rw [hW5]; exact Blk.new _ _ _
          have S5 := Lib.hid (S.out.below c5 S.out.lt)
          have D5 := Lib.hid (D.out.below c5 D.out.lt)
          have B5 := Lib.hid (New.trans b.out c5)
          have HE5 := Lib.hid E5
          have hGE : G < wr.heap.size := S.out.lt
          have HW5 := Lib.hid (show wr.alloc (.cells (ints .u8 zero32).toArray 32) = W5 from hW5.symm)
          clear c5 E5 S D b hW5
          go_wp2
          have hW := HW5.out
          rw [show (ints .u8 zero32).toArray = #[.int .u8 0, .int .u8 0, .int .u8 0, .int .u8 0, .int .u8 0, .int .u8 0, .int .u8 0, .int .u8 0, .int .u8 0, .int .u8 0, .int .u8 0, .int .u8 0, .int .u8 0, .int .u8 0, .int .u8 0, .int .u8 0, .int .u8 0, .int .u8 0, .int .u8 0, .int .u8 0, .int .u8 0, .int .u8 0, .int .u8 0, .int .u8 0, .int .u8 0, .int .u8 0, .int .u8 0, .int .u8 0, .int .u8 0, .int .u8 0, .int .u8 0, .int .u8 0] from rfl] at hW
          rw [hW]
          clear hW HW5
          have hE0 : w.heap.size < wr.heap.size := by have := HE5.out.lt; omega
          generalize wr.heap.size = E at *
          go_loopw [49] (fun i wr => ∃ k : Nat, k ≤ 32 ∧ i = .int .i64 (k : Int) ∧ Hid (Blk wr E 32 (ints .u8 (pad32 ((digI (sumS l)).take k))).toArray) ∧ Hid (Blk wr G 71 (cellsS (sumS l))) ∧ Hid (Blk wr w.heap.size 32 (ints .u8 zero32).toArray) ∧ Hid (New w wr)) (fun i _ => 32 - (intOf i).toNat)
          case atStart => exact ⟨0, by omega, rfl, HE5, S5, D5, B5⟩
          case round =>
            clear HE5 S5 D5 B5
            obtain ⟨k, hk, rfl, T, S, D, b⟩ := hrel
            by_cases hlk : k < 32
            · obtain ⟨q, hq⟩ : ∃ x, x = k / 4 := ⟨_, rfl⟩
              obtain ⟨r4, hr4⟩ : ∃ x, x = k % 4 := ⟨_, rfl⟩
              obtain ⟨sh, hsh⟩ : ∃ x, x = 24 - r4 * 8 := ⟨_, rfl⟩
              have i1 : (k : Int) / 4 = (q : Int) := by omega
              have i2 : (k : Int).tdiv 4 = (q : Int) := by rw [Int.tdiv_eq_ediv_of_nonneg (by omega)]; omega
              have i3 : (k : Int) % 4 = (r4 : Int) := by omega
              have i4 : (k : Int).tmod 4 = (r4 : Int) := by rw [Int.tmod_eq_emod_of_nonneg (by omega)]; omega
              have i5 : (24 : Int) - (r4 : Int) * 8 = (sh : Int) := by omega
              have j1 : (q : Int) < 8 := by omega
              have j2 : (k : Int) < 32 := by omega
              have s1 := S.out
              rw [cellsS_words] at s1
              have c1 := blk_cell (i := q) s1 (by simp [wordsL]; omega)
              obtain ⟨y, hy⟩ : ∃ y, y = digB (sumS l) k := ⟨_, rfl⟩
              have v1 : (wordsL (sumS l)).getD q 0 / 2 ^ sh % 256 = y := by rw [hy, hsh, hr4, hq]; rfl
              have htk : ((digI (sumS l)).take k).length = k := by rw [List.length_take, digI_len]; omega
              have c2 := blk_cell (i := k) T.out (by rw [pad32_len (by rw [htk]; omega)]; exact hlk)
              have f2 := T.out.frozen k
              have t3 := blk_setI T.out (i := k) y
              have hset := pad32_set (l := (digI (sumS l)).take k) (by rw [htk]; exact hlk) y
              rw [htk, hy, ← digI_take hlk, ← hy] at hset
              rw [hset] at t3
              have hF : Far E wr (wr.setCell ⟨E, k, none⟩ (.int .u8 y)) := far_set _ _
              have T3 := Lib.hid t3
              have S3 := Lib.hid (S.out.grown hF (by simp; omega))
              have D3 := Lib.hid (D.out.grown hF (by simp; omega))
              have B3 := Lib.hid (New.far b.out hF (by omega))
              generalize (wordsL (sumS l)).getD q 0 = x at *
              have hs24 : sh ≤ 24 := by omega
              clear hq hr4 hsh s1 hy htk t3 hset hF T S D b
              go_wp2
              go_roundw
              case rel => exact ⟨k + 1, by omega, by go_num, T3, S3, D3, B3⟩
              case measure => simp [intOf]; omega
            · obtain rfl : k = 32 := by omega
              have t3 := T.out
              rw [List.take_of_length_le (by rw [digI_len]; omega), pad32_full (digI_len _)] at t3
              have hz : (ints .u8 zero32).toArray.size = (ints .u8 (digI (sumS l))).toArray.size := by simp [ints, zero32, digI_len]
              have H := Lib.hid (And.intro (row_of_blk t3) (And.intro (row_of_blk D.out) (And.intro (i32d (digI_len (sumS l))) (And.intro hz (And.intro (ints_one .u8 (digI (sumS l))) (blk_setRow D.out (ints .u8 (digI (sumS l))).toArray))))))
              have bE := New.far b.out (far_setRow (g := w.heap.size) wr (ints .u8 (digI (sumS l))).toArray) (Nat.le_refl _)
              have BE := Lib.hid bE
              have hS : digI (sumS l) = sumI l := rfl
              rw [hS] at H BE
              generalize (ints .u8 (sumI l)).toArray = cs at *
              clear t3 hz bE hS T S D b
              go_wp2_with (first
                | (refine wpList_load_row rfl 32 (.tmp 7) rfl E rfl _ cs _ _ H.out.1 digarr rfl H.out.2.2.1 ?_)
                | (refine wpList_store_row rfl 32 (.tmp 2) (.tmp 65) rfl w.heap.size cs rfl rfl _ _ H.out.2.1 H.out.2.2.1 H.out.2.2.2.1 H.out.2.2.2.2.1 ?_))
              exact bodyPost_ret (results_cell_row rfl _ _ w.heap.size _ cs (0, 0) _ rfl H.out.2.2.2.2.2 digarr rfl H.out.2.2.1) rfl ⟨rfl, BE.out⟩

end Go.Proofs.YtgfemjpeegbhhaaDoor
/- Contract on ref01.Sum. -/

namespace Go.Hm
open Go Go.RowKit
def padN (l : List Nat) : List Nat := l ++ List.replicate (64 - l.length) 0
theorem padN_len {l : List Nat} (h : l.length ≤ 64) : (padN l).length = 64 := by simp [padN]; omega
theorem padN_set {l : List Nat} (h : l.length < 64) (x : Nat) : (padN l).set l.length x = padN (l ++ [x]) := by
  unfold padN
  rw [List.set_append_right _ _ (Nat.le_refl _), Nat.sub_self, show 64 - l.length = (64 - (l ++ [x]).length) + 1 by simp; omega, List.replicate_succ, List.set_cons_zero]
  simp
theorem padN_full {l : List Nat} (h : l.length = 64) : padN l = l := by simp [padN, h]
theorem blk_setN {w : World} {g : Nat} {ty : TypeId} {l : List Nat} {k : IntKind} {i : Nat} (h : Blk w g ty (nums k l).toArray) (x : Nat) : Blk (w.setCell ⟨g, i, none⟩ (.int k (x : Int))) g ty (nums k (l.set i x)).toArray := by
  have := h.set_ i (.int k (x : Int))
  simpa [nums, List.map_set] using this
theorem digB_at (s : S8) (k i : Nat) (hi : i < 4) : digB s (4 * k + i) = (wordsL s).getD k 0 / 2 ^ (24 - i * 8) % 256 := by
  unfold digB
  rw [show (4 * k + i) / 4 = k by omega, show (4 * k + i) % 4 = i by omega]

end Go.Hm

namespace Go.Proofs.YtgfemjpeegbhhaaDoor
open Go.RowKit Go.Hm
theorem nums_all (k : IntKind) (l : List Nat) : (nums k l).toArray.all (·.oneCell') = true := by
  rw [List.all_toArray, List.all_eq_true]
  exact nums_oneCell k l
set_option maxHeartbeats 2000000 in
set_option maxRecDepth 100000 in
theorem rsum_any {w : World} {A : Option Addr} {n c : Nat} {l : List Nat} (h : Reads w w.heap.size 1 A n (nums .u8 l)) (h8 : ∀ x ∈ l, x < 256) (hn : n ≤ 1000000) :
    Calls Tryd.prog 68 #[.slice A n c] w (NewPost (.agg (ints .u8 (sumI l)).toArray) w) := by
  obtain rfl := h.len
  have HR := Lib.hid h
  have HM8 := Lib.hid (msgL_lt h8)
  have HML := Lib.hid (msgL_len l)
  have HMM := Lib.hid (msgL_mod l)
  have hPO : padO (l.length : Int) = padL l.length := by unfold padO; rw [if_pos (by omega), Int.toNat_natCast]
  have hpl : (padL l.length).length ≤ 72 := by rw [padL_len]; unfold zerosN; omega
  have PD := Lib.hid (fun W : World => rpad_any (w := W) (l.length : Int))
  rw [hPO] at PD
  have HPL2 := Lib.hid hpl
  clear h h8 hPO hpl
  obtain ⟨W0, hW0⟩ : ∃ W, W = (w.alloc (.cells (ints .u8 zero32).toArray 32)).alloc (.cells #[] 5) := ⟨_, rfl⟩
  have e1 : (w.alloc (.cells (ints .u8 zero32).toArray 32)).heap.size = w.heap.size + 1 := by simp
  have b0 : New w W0 := by rw [hW0]; exact ((Below.refl _ _).alloc (Nat.le_refl _) _).alloc (by simp) _
  have D0 : Blk W0 w.heap.size 32 (ints .u8 zero32).toArray := by rw [hW0]; exact (Blk.new _ _ _).alloc _
  have O0 : Own W0 w.heap.size 5 (.slice (some ⟨w.heap.size + 1, 0, none⟩) 0 0) (nums .u8 []) := by
    rw [hW0, ← e1]
    exact (Own.empty _ _).base_le (by simp)
  have R0 := Lib.hid (Reads.later HR.out b0)
  have HD0 := Lib.hid D0
  have HO0 := Lib.hid O0
  have z0 := b0.size
  have HB0 := Lib.hid b0
  have HW0 := Lib.hid (show W0 = (w.alloc (.cells #[.int .u8 0, .int .u8 0, .int .u8 0, .int .u8 0, .int .u8 0, .int .u8 0, .int .u8 0, .int .u8 0, .int .u8 0, .int .u8 0, .int .u8 0, .int .u8 0, .int .u8 0, .int .u8 0, .int .u8 0, .int .u8 0, .int .u8 0, .int .u8 0, .int .u8 0, .int .u8 0, .int .u8 0, .int .u8 0, .int .u8 0, .int .u8 0, .int .u8 0, .int .u8 0, .int .u8 0, .int .u8 0, .int .u8 0, .int .u8 0, .int .u8 0, .int .u8 0] 32)).alloc (.cells #[] 5) from hW0)
  have O0' := HO0.out
  have R0' := R0.out
  have b0' := HB0.out
  rw [HW0.out] at O0' R0' b0' z0
  clear hW0 e1 D0 O0 b0
  go_enter Tryd.func68, Tryd.ntmps68
  go_wp2_with (refine wpList_pushesN elB rfl (.tmp 11) (.tmp 12) rfl (W := w) (B := w.heap.size) (base := w.heap.size) O0' R0' rfl rfl b0' (Nat.le_refl _) z0 (by omega) (by simp only [maxLen]; omega) ?_
               intro A8 c8 w8 _ _ o8 g8 b8 _)
  rw [List.nil_append, Nat.zero_add] at o8
  rw [← HW0.out] at g8
  have D8 := Lib.hid (HD0.out.push HO0.out g8 (by decide))
  have O8 := Lib.hid o8
  have B8 := Lib.hid b8
  clear O0' R0' b0' z0 g8 o8 b8 HO0 HD0 HB0 R0 HW0
  refine (PD.out _).mono ?_
  rintro e w9 ⟨A9, n9, c9, rfl, o9, b9⟩
  have r9 := o9.reads
  obtain rfl := r9.len
  have o89 := O8.out.later b9
  have D9 := Lib.hid (D8.out.below b9 D8.out.lt)
  have b09 := New.trans B8.out b9
  have z9 := b09.size
  have hsum : l.length + (padL l.length).length ≤ 1000100 := by have := HPL2.out; omega
  clear o9 PD O8 B8 D8 b9
  go_wp2_with (refine wpList_pushesN elB rfl (.tmp 13) (.tmp 16) rfl (W := w) (B := w.heap.size) (base := w.heap.size) o89 r9 rfl rfl b09 (Nat.le_refl _) z9 (by omega) (by simp only [maxLen]; omega) ?_
               intro A10 c10 w10 hc10 _ o10 g10 b10 _)
  have D10 := Lib.hid (D9.out.push o89 g10 (by decide))
  rw [show l ++ padL l.length = msgL l from rfl] at o10
  have T10 := Lib.hid (TR.of_own o10)
  have B10 := Lib.hid b10
  have HM := Lib.hid (show l.length + (padL l.length).length = (msgL l).length from HML.out.symm)
  generalize l.length + (padL l.length).length = m at *
  clear o89 r9 g10 b09 b10 z9 o10 D9 HPL2
  refine (rfirst_any).mono ?_
  rintro e w11 ⟨rfl, b11⟩
  have T11 := Lib.hid (T10.out.below b11)
  have D11 := Lib.hid (D10.out.below b11 D10.out.lt)
  have B11 := Lib.hid (New.trans B10.out b11)
  clear b11 T10 D10 B10
  go_wp2_with (first | (refine wpList_store_row rfl 71 (.tmp 4) (.tmp 18) rfl w11.heap.size (cellsS firstS) rfl rfl _ _ (heap_alloc_new _ _) (i8w _) rfl (cellsS_one _) ?_; rw [alloc_setRow]) | fail)
  obtain ⟨W2, hW2⟩ : ∃ W, W = w11.alloc (.cells (cellsS firstS) 71) := ⟨_, rfl⟩
  have c2 : New w11 W2 := by rw [hW2]; exact (Below.refl _ _).alloc (Nat.le_refl _) _
  have G2 : Blk W2 w11.heap.size 71 (cellsS (foldK (msgL l) 0)) := by rw [hW2]; exact Blk.new _ _ _
  have D2 := Lib.hid (D11.out.below c2 D11.out.lt)
  have B2 := Lib.hid (New.trans B11.out c2)
  have T2 := Lib.hid (T11.out.below c2)
  have hG : w.heap.size < w11.heap.size := D11.out.lt
  have HG2 := Lib.hid G2
  rw [← hW2]
  generalize w11.heap.size = G at *
  clear hW2 c2 G2 T11 D11 B11
  go_loopw [5] (fun i wr => ∃ k a : Nat, Hid (a = 64 * k) ∧ a ≤ m ∧ i = .int .i64 (a : Int) ∧ Hid (TR wr 5 A10 m (nums .u8 (msgL l))) ∧ Hid (Blk wr G 71 (cellsS (foldK (msgL l) k))) ∧ Hid (Blk wr w.heap.size 32 (ints .u8 zero32).toArray) ∧ Hid (New w wr)) (fun i _ => m - (intOf i).toNat)
  case atStart => exact ⟨0, 0, Lib.hid rfl, by omega, rfl, T2, HG2, D2, B2⟩
  case round =>
    clear T2 HG2 D2 B2
    obtain ⟨k, a, HA, ha, rfl, T, S, D, b⟩ := hrel
    by_cases hlt : a + 64 ≤ m
    · have hltI : (a : Int) + 64 ≤ (m : Int) := by omega
      have d1 : decide ((a : Int) + 64 ≤ (m : Int)) = true := by simpa using hltI
      have hE0 : G < wr.heap.size := S.out.lt
      obtain ⟨W5, hW5⟩ : ∃ W, W = wr.alloc (.cells (nums .u8 (padN (((msgL l).drop a).take 0))).toArray 74) := ⟨_, rfl⟩
      have c5 : New wr W5 := by rw [hW5]; exact (Below.refl _ _).alloc (Nat.le_refl _) _
      have E5 : Blk W5 wr.heap.size 74 (nums .u8 (padN (((msgL l).drop a).take 0))).toArray := by rw [hW5]; exact Blk.new _ _ _
      have HE5 := Lib.hid E5
      have S5 := Lib.hid (S.out.below c5 S.out.lt)
      have D5 := Lib.hid (D.out.below c5 D.out.lt)
      have T5 := Lib.hid (T.out.below c5)
      have B5 := Lib.hid (New.trans b.out c5)
      have HW5 := Lib.hid (show W5 = wr.alloc (.cells #[.int .u8 0, .int .u8 0, .int .u8 0, .int .u8 0, .int .u8 0, .int .u8 0, .int .u8 0, .int .u8 0, .int .u8 0, .int .u8 0, .int .u8 0, .int .u8 0, .int .u8 0, .int .u8 0, .int .u8 0, .int .u8 0, .int .u8 0, .int .u8 0, .int .u8 0, .int .u8 0, .int .u8 0, .int .u8 0, .int .u8 0, .int .u8 0, .int .u8 0, .int .u8 0, .int .u8 0, .int .u8 0, .int .u8 0, .int .u8 0, .int .u8 0, .int .u8 0, .int .u8 0, .int .u8 0, .int .u8 0, .int .u8 0, .int .u8 0, .int .u8 0, .int .u8 0, .int .u8 0, .int .u8 0, .int .u8 0, .int .u8 0, .int .u8 0, .int .u8 0, .int .u8 0, .int .u8 0, .int .u8 0, .int .u8 0, .int .u8 0, .int .u8 0, .int .u8 0, .int .u8 0, .int .u8 0, .int .u8 0, .int .u8 0, .int .u8 0, .int .u8 0, .int .u8 0, .int .u8 0, .int .u8 0, .int .u8 0, .int .u8 0, .int .u8 0] 74) from hW5)
      clear hW5 c5 E5 T S D b
      go_wp2
      rw [← HW5.out]
      clear HW5
      generalize wr.heap.size = E at *
      go_loopw [7] (fun i wr => ∃ j : Nat, j ≤ 64 ∧ i = .int .i64 (j : Int) ∧ Hid (Blk wr E 74 (nums .u8 (padN (((msgL l).drop a).take j))).toArray) ∧ Hid (TR wr 5 A10 m (nums .u8 (msgL l))) ∧ Hid (Blk wr G 71 (cellsS (foldK (msgL l) k))) ∧ Hid (Blk wr w.heap.size 32 (ints .u8 zero32).toArray) ∧ Hid (New w wr)) (fun i _ => 64 - (intOf i).toNat)
      case atStart => exact ⟨0, by omega, rfl, HE5, T5, S5, D5, B5⟩
      case round =>
        clear HE5 T5 S5 D5 B5
        obtain ⟨j, hj, rfl, X, T, S, D, b⟩ := hrel
        by_cases hlj : j < 64
        · obtain ⟨q, hq⟩ : ∃ x, x = a + j := ⟨_, rfl⟩
          have i1 : (a : Int) + (j : Int) = (q : Int) := by omega
          have hqm : q < m := by omega
          obtain ⟨ad, hA10, _, c1⟩ := T.out.1.num (i := q) hqm
          have htk : (((msgL l).drop a).take j).length = j := by rw [List.length_take, List.length_drop, ← HM.out]; omega
          have c2 := blk_cellN (i := j) X.out (by rw [padN_len (by omega)]; exact hlj)
          have f2 := X.out.frozen j
          have hset := padN_set (l := ((msgL l).drop a).take j) (by omega) ((msgL l).getD q 0)
          have hsn : ((msgL l).drop a).take (j + 1) = ((msgL l).drop a).take j ++ [(msgL l).getD q 0] := by
            rw [take_snoc _ j 0 (by rw [List.length_drop, ← HM.out]; omega)]
            congr 2
            rw [List.getD_eq_getElem?_getD, List.getElem?_drop, ← hq, ← List.getD_eq_getElem?_getD]
          rw [htk, ← hsn] at hset
          have t3 := blk_setN X.out (i := j) ((msgL l).getD q 0)
          rw [hset] at t3
          have hF : Far E wr (wr.setCell ⟨E, j, none⟩ (.int .u8 (((msgL l).getD q 0 : Nat) : Int))) := far_set _ _
          have X3 := Lib.hid t3
          have T3 := Lib.hid (T.out.keep hF X.out (by decide))
          have S3 := Lib.hid (S.out.grown hF (by simp; omega))
          have D3 := Lib.hid (D.out.grown hF (by simp; omega))
          have B3 := Lib.hid (New.far b.out hF (by omega))
          generalize (msgL l).getD q 0 = x at *
          have HA10 := Lib.hid hA10
          have j2 : (j : Int) < 64 := by omega
          clear hq htk hset hsn t3 hF T S D b X hA10
          rw [HA10.out]
          go_wp2
          rw [← HA10.out]
          go_roundw
          case rel => exact ⟨j + 1, by omega, by go_num, X3, T3, S3, D3, B3⟩
          case measure => simp [intOf]; omega
        · have hj64 : j = 64 := by omega
          have hb : (blkN (msgL l) k).length = 64 := blkN_len (by rw [← HA.out, ← HM.out]; omega)
          have hx : padN (((msgL l).drop a).take j) = blkN (msgL l) k := by
            rw [hj64, HA.out]
            exact padN_full hb
          have x1 := X.out
          rw [hx] at x1
          have X1 := Lib.hid x1
          have HBL := Lib.hid hb
          have hst : compS (foldK (msgL l) k) (blkN (msgL l) k) = foldK (msgL l) (k + 1) := rfl
          have CP := Lib.hid (fun (W : World) => rcompress_any (w := W) (foldK (msgL l) k) (foldK_ok _ _) (blkN (msgL l) k) hb (blkN_lt HM8.out))
          rw [hst] at CP
          have hi := i64b hb
          have HI := Lib.hid (show (Tryd.prog.info? 74).map (·.size) = some (nums .u8 (blkN (msgL l) k)).toArray.size by rw [List.size_toArray]; exact hi)
          clear hj64 hb hx x1 X hst hi
          go_wp2_with (first
            | (refine wpList_load_row rfl 71 (.tmp 4) rfl G rfl _ (cellsS (foldK (msgL l) k)) _ _ (row_of_blk S.out) u32arr rfl (i8w _) ?_)
            | (refine wpList_load_row rfl 74 (.tmp 6) rfl E rfl _ (nums .u8 (blkN (msgL l) k)).toArray _ _ (row_of_blk X1.out) u8arr rfl HI.out ?_))
          (with_reducible refine (CP.out _).mono ?_)
          rintro e9 w9 ⟨rfl, c9⟩
          have S9 := S.out.below c9 S.out.lt
          have D9 := D.out.below c9 D.out.lt
          have T9 := T.out.below c9
          have b9 := New.trans b.out c9
          have hF := far_setRow (g := G) w9 (cellsS (foldK (msgL l) (k + 1)))
          have S10 := Lib.hid (blk_setRow S9 (cellsS (foldK (msgL l) (k + 1))))
          have D10 := Lib.hid (D9.grown hF (by simp; omega))
          have T10 := Lib.hid (T9.keep hF S9 (by decide))
          have B10 := Lib.hid (New.far b9 hF (by omega))
          have HS9 := Lib.hid S9
          obtain ⟨a2, ha2⟩ : ∃ x, x = a + 64 := ⟨_, rfl⟩
          have HA3 := Lib.hid (show a2 = 64 * (k + 1) by rw [ha2, HA.out]; omega)
          have e4 : (a : Int) + 64 = (a2 : Int) := by omega
          have hle : a2 ≤ m := by omega
          clear S9 D9 T9 b9 hF c9 CP X1 S D T b HI ha2
          go_wp2_with (refine wpList_store_row rfl 71 (.tmp 4) (.tmp 40) rfl G (cellsS (foldK (msgL l) (k + 1))) rfl rfl _ _ (row_of_blk HS9.out) (i8w _) rfl (cellsS_one _) ?_)
          go_roundw
          case rel => exact ⟨k + 1, a2, HA3, hle, rfl, T10, S10, D10, B10⟩
          case measure => simp [intOf]; omega
    · have hltI : ¬ (a : Int) + 64 ≤ (m : Int) := by omega
      have d1 : decide ((a : Int) + 64 ≤ (m : Int)) = false := by simpa using hltI
      have hk : foldK (msgL l) k = sumS l := by
        unfold sumS
        congr 1
        have := HM.out
        have := HA.out
        have := HMM.out
        omega
      rw [hk] at S
      obtain ⟨W5, hW5⟩ : ∃ W, W = wr.alloc (.cells (ints .u8 (pad32 ((digI (sumS l)).take 0))).toArray 32) := ⟨_, rfl⟩
      have c5 : New wr W5 := by rw [hW5]; exact (Below.refl _ _).alloc (Nat.le_refl _) _
      have E5 : Blk W5 wr.heap.size 32 (ints .u8 (pad32 ((digI (sumS l)).take 0))).toArray := by rw [hW5]; exact Blk.new _ _ _
      have hE0 : G < wr.heap.size := S.out.lt
      have HE5 := Lib.hid E5
      have S5 := Lib.hid (S.out.below c5 S.out.lt)
      have D5 := Lib.hid (D.out.below c5 D.out.lt)
      have B5 := Lib.hid (New.trans b.out c5)
      have HW5 := Lib.hid (show W5 = wr.alloc (.cells #[.int .u8 0, .int .u8 0, .int .u8 0, .int .u8 0, .int .u8 0, .int .u8 0, .int .u8 0, .int .u8 0, .int .u8 0, .int .u8 0, .int .u8 0, .int .u8 0, .int .u8 0, .int .u8 0, .int .u8 0, .int .u8 0, .int .u8 0, .int .u8 0, .int .u8 0, .int .u8 0, .int .u8 0, .int .u8 0, .int .u8 0, .int .u8 0, .int .u8 0, .int .u8 0, .int .u8 0, .int .u8 0, .int .u8 0, .int .u8 0, .int .u8 0, .int .u8 0] 32) from hW5)
      clear hk hW5 c5 E5 T S D b HA hlt hltI
      go_wp2
      rw [← HW5.out]
      clear HW5 d1
      generalize wr.heap.size = E at *
      go_loopw [9] (fun i wr => ∃ k : Nat, k ≤ 8 ∧ i = .int .i64 (k : Int) ∧ Hid (Blk wr E 32 (ints .u8 (pad32 ((digI (sumS l)).take (4 * k)))).toArray) ∧ Hid (Blk wr G 71 (cellsS (sumS l))) ∧ Hid (Blk wr w.heap.size 32 (ints .u8 zero32).toArray) ∧ Hid (New w wr)) (fun i _ => 8 - (intOf i).toNat)
      case atStart => exact ⟨0, by omega, rfl, HE5, S5, D5, B5⟩
      case round =>
        clear HE5 S5 D5 B5
        obtain ⟨k, hk, rfl, T, S, D, b⟩ := hrel
        by_cases hlk : k < 8
        · have d2 : decide ((k : Int) < 8) = true := by simp; omega
          go_wp2
          go_loopw [10] (fun i wr => ∃ j : Nat, j ≤ 4 ∧ i = .int .i64 (j : Int) ∧ Hid (Blk wr E 32 (ints .u8 (pad32 ((digI (sumS l)).take (4 * k + j)))).toArray) ∧ Hid (Blk wr G 71 (cellsS (sumS l))) ∧ Hid (Blk wr w.heap.size 32 (ints .u8 zero32).toArray) ∧ Hid (New w wr)) (fun i _ => 4 - (intOf i).toNat)
          case atStart => exact ⟨0, by omega, rfl, T, S, D, b⟩
          case round =>
            clear T S D b
            obtain ⟨j, hj, rfl, T, S, D, b⟩ := hrel
            by_cases hlj : j < 4
            · obtain ⟨q, hq⟩ : ∃ x, x = 4 * k + j := ⟨_, rfl⟩
              obtain ⟨sh, hsh⟩ : ∃ x, x = 24 - j * 8 := ⟨_, rfl⟩
              have i1 : (4 : Int) * (k : Int) + (j : Int) = (q : Int) := by omega
              have i5 : (24 : Int) - 8 * (j : Int) = (sh : Int) := by omega
              have j1 : (k : Int) < 8 := by omega
              have j2 : (q : Int) < 32 := by omega
              have s1 := S.out
              rw [cellsS_words] at s1
              have c1 := blk_cell (i := k) s1 (by simp [wordsL]; omega)
              obtain ⟨y, hy⟩ : ∃ y, y = digB (sumS l) q := ⟨_, rfl⟩
              have v1 : (wordsL (sumS l)).getD k 0 / 2 ^ sh % 256 = y := by rw [hy, hq, digB_at _ _ _ hlj, hsh]
              have t0 := T.out
              rw [← hq] at t0
              have htk : ((digI (sumS l)).take q).length = q := by rw [List.length_take, digI_len]; omega
              have c2 := blk_cell (i := q) t0 (by rw [pad32_len (by rw [htk]; omega)]; omega)
              have f2 := t0.frozen q
              have t3 := blk_setI t0 (i := q) y
              have hset := pad32_set (l := (digI (sumS l)).take q) (by rw [htk]; omega) y
              rw [htk, hy, ← digI_take (by omega), ← hy] at hset
              rw [hset, show q + 1 = 4 * k + (j + 1) by omega] at t3
              have hF : Far E wr (wr.setCell ⟨E, q, none⟩ (.int .u8 y)) := far_set _ _
              have T3 := Lib.hid t3
              have S3 := Lib.hid (S.out.grown hF (by simp; omega))
              have D3 := Lib.hid (D.out.grown hF (by simp; omega))
              have B3 := Lib.hid (New.far b.out hF (by omega))
              generalize (wordsL (sumS l)).getD k 0 = x at *
              have hs24 : sh ≤ 24 := by omega
              clear hq hsh s1 hy htk t3 t0 hset hF T S D b
              go_wp2
              go_roundw
              case rel => exact ⟨j + 1, by omega, by go_num, T3, S3, D3, B3⟩
              case measure => simp [intOf]; omega
            · have t0 := T.out
              rw [show 4 * k + j = 4 * (k + 1) by omega] at t0
              have T3 := Lib.hid t0
              clear t0 T
              go_wp2
              go_roundw
              case rel => exact ⟨k + 1, by omega, by go_num, T3, S, D, b⟩
              case measure => simp [intOf]; omega
        · have t3 := T.out
          rw [List.take_of_length_le (by rw [digI_len]; omega), pad32_full (digI_len _)] at t3
          have hz : (ints .u8 zero32).toArray.size = (ints .u8 (digI (sumS l))).toArray.size := by simp [ints, zero32, digI_len]
          have H := Lib.hid (And.intro (row_of_blk t3) (And.intro (row_of_blk D.out) (And.intro (i32d (digI_len (sumS l))) (And.intro hz (And.intro (ints_one .u8 (digI (sumS l))) (blk_setRow D.out (ints .u8 (digI (sumS l))).toArray))))))
          have bE := New.far b.out (far_setRow (g := w.heap.size) wr (ints .u8 (digI (sumS l))).toArray) (Nat.le_refl _)
          have BE := Lib.hid bE
          have hS : digI (sumS l) = sumI l := rfl
          rw [hS] at H BE
          generalize (ints .u8 (sumI l)).toArray = cs at *
          clear t3 hz bE hS T S D b
          go_wp2_with (first
            | (refine wpList_load_row rfl 32 (.tmp 8) rfl E rfl _ cs _ _ H.out.1 digarr rfl H.out.2.2.1 ?_)
            | (refine wpList_store_row rfl 32 (.tmp 2) (.tmp 63) rfl w.heap.size cs rfl rfl _ _ H.out.2.1 H.out.2.2.1 H.out.2.2.2.1 H.out.2.2.2.2.1 ?_))
          exact bodyPost_ret (results_cell_row rfl _ _ w.heap.size _ cs (0, 0) _ rfl H.out.2.2.2.2.2 digarr rfl H.out.2.2.1) rfl ⟨rfl, BE.out⟩

end Go.Proofs.YtgfemjpeegbhhaaDoor
/- From a walk of a law, which ends with true and leaves all that was there as it was, to the given statement's form. No program is named here. -/

namespace Go.Hm
open Go.RowKit Go.WideShapes Go.ChangeShapes

section
variable {H : Type} {enc : TypeId × Value → H} {P : Program}

theorem trodAll_below (hl : laidOutB P = true) {W W' : World} {sp : Nat → Bool} (hb : Below W.heap.size W W') :
    ∀ {ts : List TypeId} {vs : List Value} {ds : List (DataW H)} {ps : List MemPlace}, (∀ t ∈ ts, P.readableRec t = true ∧ t < P.types.size) → DataW.TrodAll enc P W 0 (fun _ => true) true ts vs ds ps →
      (∀ p ∈ ps, p.block < W.heap.size) → (∀ p ∈ ps, sp p.block = true) → DataW.TrodAll enc P W' 0 sp true ts vs ds ps
  | [], _, _, _, _, h, _, _ => by
    obtain ⟨rfl, rfl, rfl⟩ := trodAll_nil h
    rfl
  | t :: ts, _, _, _, hr, h, hlt, hsp => by
    obtain ⟨v, vs, d, ds, p, q, rfl, rfl, rfl, h1, h2⟩ := trodAll_cons h
    refine ⟨p, q, ?_, trodAll_below hl hb (fun t ht => hr t (by simp [ht])) h2 (fun x hx => hlt x (by simp [hx])) (fun x hx => hsp x (by simp [hx])), rfl⟩
    exact WideElems.Trod_stays hl (hr t (by simp)).1 (hr t (by simp)).2 h1 (fun x hx => hb.same (hlt x (by simp [hx]))) (fun x hx => hsp x (by simp [hx]))

theorem post_law {f : Func} {s : ChangeSpec} {tb : TypeId} {W W' : World} {args : Array Value} {ds gs : List (DataW H)} {before : List MemPlace}
    (hl : laidOutB P = true) (hrt : f.resultTypes = #[tb]) (htb : P.underlying tb = some .bool) (hr : ∀ t ∈ f.params.toList, P.readableRec t = true ∧ t < P.types.size)
    (hv : s.vars = []) (hs : s.fn H (ds ++ gs) = { results := [.lit (.bool true)], args := ds })
    (hW : DataW.Whole enc P f.params.toList s.vars false W args.toList ds gs before) (hb : Below W.heap.size W W') :
    s.post enc P f false true false false W args (.bool true) W' := by
  have hlt : ∀ p ∈ before, p.block < W.heap.size := fun p hp => hW.lt p hp
  obtain ⟨p, q, hA, hV, rfl, hfz, hnd⟩ := id hW
  rw [hv] at hV
  obtain ⟨rfl, rfl⟩ := trodVars_none hV
  simp only [List.append_nil] at hlt
  have hargs := trodAll_below (sp := fun b => decide (b < W.heap.size)) hl hb hr hA hlt (fun x hx => by simpa using hlt x hx)
  refine ⟨ds, [], p ++ [], [], p, [], hW, ?_, ?_, ?_, World.keptBut_mono (fun x hx => ⟨hx, ?_⟩) (hb.frame (· ∈ p ++ [])), fun h => by cases h⟩
  · rw [hs, hrt]
    exact trodAll_mk1 (shut_bool htb true)
  · rw [hs]; exact hargs
  · rw [hs, hv]; rfl
  · exact .inr (.inl (by simpa using hx))
end

theorem sized_at {H : Type} {P : Program} {ts : List TypeId} {ds : List (DataW H)} (h : (DataW.weightsEach P ts ds).all (· ≤ reachBytes) = true) {j : Nat} {t : TypeId} {d : DataW H} (ht : ts[j]? = some t) (hd : ds[j]? = some d) :
    ∀ n ∈ d.weights P t, n ≤ reachBytes := fun n hn => by
  have := List.all_eq_true.1 h n (DataW.weights_mem_each ht hd n hn)
  simpa using this

/-- A slice of unsigned numbers comes in. -/
theorem open_nums {H : Type} {enc : TypeId × Value → H} {P : Program} {W : World} {t e : TypeId} {k : IntKind} {base : Nat} {v : Value} {d : DataW H} {ps : List MemPlace} {sz : Nat}
    (ht : P.underlying t = some (.slice e)) (he : P.underlying e = some (.int k)) (hc : P.cellsOf e = 1) (hs : k.signed = false) (hby : P.bytesOf e = sz)
    (hval : Value.okWide P W .any base t v) (h : DataW.Trod enc P W 0 (fun _ => true) true t v d ps) (hlt : ∀ p ∈ ps, p.block < W.heap.size) (hw : ∀ n ∈ d.weights P t, n ≤ reachBytes) :
    ∃ A c, ∃ l : List Nat, v = .slice A l.length c ∧ l.length ≤ c ∧ c ≤ maxLen ∧ c * sz ≤ reachBytes ∧ Reads W W.heap.size 1 A l.length (nums k l) ∧ ∀ x ∈ l, (x : Int) ≤ k.max := by
  obtain ⟨a0, len, cap, rfl⟩ := okWide_slice ht hval
  obtain ⟨fuel, hf⟩ := h
  rcases open_ints ht he hc hf with ⟨hcs, hx⟩ | ⟨a, len', cap', zs, hcs, _, hl, hm, hz, hx, hcell, hwz⟩
  · have : a0 = none ∧ len = 0 ∧ cap = 0 := by simpa [Value.cells] using hcs
    obtain ⟨rfl, rfl, rfl⟩ := this
    exact ⟨none, 0, [], rfl, by simp, by simp [maxLen], by simp, ⟨by simp [nums], fun h => by simp at h⟩, by simp⟩
  · have : a0 = some a ∧ len = len' ∧ cap = cap' := by simpa [Value.cells] using hcs
    obtain ⟨rfl, rfl, rfl⟩ := this
    simp only [Prod.mk.injEq] at hx
    obtain ⟨rfl, rfl⟩ := hx
    rw [if_pos rfl] at hz
    have hzl : (zs.take len).length = len := by rw [List.length_take]; omega
    have hll : ((zs.take len).map Int.toNat).length = len := by rw [List.length_map, hzl]
    have hnn : ∀ n ∈ zs, 0 ≤ n ∧ n ≤ k.max := fun n hn => by
      have := hwz n hn
      simpa [Lit.wf, IntKind.min, hs] using this
    have hnums : nums k ((zs.take len).map Int.toNat) = (zs.take len).map (Value.int k) := by
      unfold nums
      rw [List.map_map]
      refine List.map_congr_left fun n hn => ?_
      have := (hnn n (List.mem_of_mem_take hn)).1
      simp [Int.toNat_of_nonneg this]
    refine ⟨some a, cap, (zs.take len).map Int.toNat, by rw [hll], by rw [hll]; exact hl, hm, ?_, ⟨by rw [nums_length, hll]; simp, fun hn => ⟨a, rfl, ?_, ?_⟩⟩, ?_⟩
    · have h1 := hw (cap * sz) (by
        simp only [DataW.weights, ht, hby, List.mem_cons]
        left
        congr 1
        simp [lits, hz]
        omega)
      exact h1
    · rw [hll] at hn
      exact hlt (.cell a.block a.off) (by
        unfold MemPlace.row
        simp only [List.mem_map, List.mem_range]
        exact ⟨0, by omega, rfl⟩)
    · intro j u hu
      rw [hnums] at hu
      have hj : j < (zs.take len).length := by
        rcases Nat.lt_or_ge j (zs.take len).length with h1 | h1
        · exact h1
        · rw [List.getElem?_eq_none (by simpa using h1)] at hu
          cases hu
      have hjz : j < zs.length := by rw [hzl] at hj; omega
      rw [hcell j hjz]
      rw [List.getElem?_map, List.getElem?_take_of_lt (by rw [hzl] at hj; exact hj), List.getElem?_eq_getElem hjz] at hu
      simpa [List.getD, List.getElem?_eq_getElem hjz] using hu
    · intro x hx
      simp only [List.mem_map] at hx
      obtain ⟨n, hn, rfl⟩ := hx
      have := hnn n (List.mem_of_mem_take hn)
      rw [Int.toNat_of_nonneg this.1]
      exact this.2

/-- A slice of numbers comes in. -/
theorem open_ints_ {H : Type} {enc : TypeId × Value → H} {P : Program} {W : World} {t e : TypeId} {k : IntKind} {base : Nat} {v : Value} {d : DataW H} {ps : List MemPlace} {sz : Nat}
    (ht : P.underlying t = some (.slice e)) (he : P.underlying e = some (.int k)) (hc : P.cellsOf e = 1) (hby : P.bytesOf e = sz)
    (hval : Value.okWide P W .any base t v) (h : DataW.Trod enc P W 0 (fun _ => true) true t v d ps) (hlt : ∀ p ∈ ps, p.block < W.heap.size) (hw : ∀ n ∈ d.weights P t, n ≤ reachBytes) :
    ∃ A c, ∃ l : List Int, v = .slice A l.length c ∧ l.length ≤ c ∧ c ≤ maxLen ∧ c * sz ≤ reachBytes ∧ Reads W W.heap.size 1 A l.length (ints k l) ∧ ∀ x ∈ l, k.min ≤ x ∧ x ≤ k.max := by
  obtain ⟨a0, len, cap, rfl⟩ := okWide_slice ht hval
  obtain ⟨fuel, hf⟩ := h
  rcases open_ints ht he hc hf with ⟨hcs, hx⟩ | ⟨a, len', cap', zs, hcs, _, hl, hm, hz, hx, hcell, hwz⟩
  · have : a0 = none ∧ len = 0 ∧ cap = 0 := by simpa [Value.cells] using hcs
    obtain ⟨rfl, rfl, rfl⟩ := this
    exact ⟨none, 0, [], rfl, by simp, by simp [maxLen], by simp, ⟨by simp [ints], fun h => by simp at h⟩, by simp⟩
  · have : a0 = some a ∧ len = len' ∧ cap = cap' := by simpa [Value.cells] using hcs
    obtain ⟨rfl, rfl, rfl⟩ := this
    simp only [Prod.mk.injEq] at hx
    obtain ⟨rfl, rfl⟩ := hx
    rw [if_pos rfl] at hz
    have hzl : (zs.take len).length = len := by rw [List.length_take]; omega
    refine ⟨some a, cap, zs.take len, by rw [hzl], by rw [hzl]; exact hl, hm, ?_, ⟨by rw [ints_length, hzl]; simp, fun hn => ⟨a, rfl, ?_, ?_⟩⟩, ?_⟩
    · have h1 := hw (cap * sz) (by
        simp only [DataW.weights, ht, hby, List.mem_cons]
        left
        congr 1
        simp [lits, hz]
        omega)
      exact h1
    · rw [hzl] at hn
      exact hlt (.cell a.block a.off) (by
        unfold MemPlace.row
        simp only [List.mem_map, List.mem_range]
        exact ⟨0, by omega, rfl⟩)
    · intro j u hu
      unfold ints at hu
      have hj : j < (zs.take len).length := by
        rcases Nat.lt_or_ge j (zs.take len).length with h1 | h1
        · exact h1
        · rw [List.getElem?_eq_none (by simpa using h1)] at hu
          cases hu
      have hjz : j < zs.length := by rw [hzl] at hj; omega
      rw [hcell j hjz]
      rw [List.getElem?_map, List.getElem?_take_of_lt (by rw [hzl] at hj; exact hj), List.getElem?_eq_getElem hjz] at hu
      simpa [List.getD, List.getElem?_eq_getElem hjz] using hu
    · intro x hx
      have := hwz x (List.mem_of_mem_take hx)
      simpa [Lit.wf] using this

theorem law_lifted {C : Checked} {os : Os} {f : FuncId} {fn : Func} {s : ChangeSpec} {tb : TypeId} {H : Type} {enc : TypeId × Value → H}
    (own : ownKnob C.prog.godebug = none) (hl : laidOutB C.prog = true) (started : os.Started) (noInit : C.prog.inits.idxOf? f = none) (hfn : C.prog.funcs[f]? = some fn)
    (hrt : fn.resultTypes = #[tb]) (htb : C.prog.underlying tb = some .bool) (hr : ∀ t ∈ fn.params.toList, C.prog.readableRec t = true ∧ t < C.prog.types.size)
    (hv : s.vars = []) (hs : ∀ ds : List (DataW H), ds.length = fn.params.size → s.fn H ds = { results := [.lit (.bool true)], args := ds })
    (witness : ∃ (w : World) (tape : Tape) (i : Input), w.os = os ∧ (w.forCall tape i).Shaped C.prog ∧ i.vars = [] ∧ Input.okWide C.prog (w.forCall tape i) .any w.heap.size f i ∧
      s.pre6 enc C.prog fn [] false (w.forCall tape i).memory i.args ∧ ({} : Assume).holds C.prog (lone (Frame.enter C.prog f i.args .normal) [] (w.forCall tape i)))
    (contract : ∀ (W : World) (base : Nat) (args : Array Value) (ds : List (DataW H)) (ps : List MemPlace),
      (∀ (j : Nat) t v, fn.params[j]? = some t → args[j]? = some v → Value.okWide C.prog W .any base t v) →
      DataW.TrodAll enc C.prog W 0 (fun _ => true) true fn.params.toList args.toList ds ps → (∀ p ∈ ps, p.block < W.heap.size) → W.noneFrozen ps →
      (DataW.weightsEach C.prog fn.params.toList ds).all (· ≤ reachBytes) = true →
      Calls C.prog f args W fun e W' => e = .returned (.bool true) ∧ Below W.heap.size W W') :
    ReturnsInHanded {} C os f .any (s.pre6 enc C.prog fn [] false) (s.post enc C.prog fn false true false false) := by
  refine returnsInHanded_of_change_sized own started noInit hfn witness ?_
  intro W base args ds gs before hval hW _ hsz _
  have hlt : ∀ p ∈ before, p.block < W.heap.size := fun p hp => hW.lt p hp
  obtain ⟨p, q, hA, hV, rfl, hfz, _⟩ := id hW
  rw [hv] at hV
  obtain ⟨rfl, rfl⟩ := trodVars_none hV
  have hvt : s.plain.varTypes C.prog = [] := by simp [ChangeSpec.plain, DataSpec.varTypes, hv]
  rw [hvt, List.append_nil, List.append_nil] at hsz
  simp only [List.append_nil] at hlt hfz
  refine (contract W base args ds p hval hA hlt hfz hsz).mono fun e W' ⟨he, hb⟩ => ⟨_, he, ?_⟩
  have hdl : ∀ {ts : List TypeId} {vs : List Value} {ds : List (DataW H)} {ps : List MemPlace}, DataW.TrodAll enc C.prog W 0 (fun _ => true) true ts vs ds ps → ds.length = ts.length := by
    intro ts
    induction ts with
    | nil => intro vs ds ps h; obtain ⟨_, rfl, _⟩ := trodAll_nil h; rfl
    | cons t ts ih => intro vs ds ps h; obtain ⟨v, vs', d, ds', p', q', _, rfl, _, _, h2⟩ := trodAll_cons h; simp [ih h2]
  exact post_law hl hrt htb hr hv (by rw [List.append_nil]; exact hs ds (by simpa using hdl hA)) hW hb

end Go.Hm
/- Many parameters taken apart. No program is named here. -/

namespace Go.Hm
open Go Go.RowKit Go.WideShapes Go.ChangeShapes
variable {H : Type} {enc : TypeId × Value → H} {P : Program} {w : World} {base : Nat} {spare : Nat → Bool} {held : Bool}
theorem args_eq {args : Array Value} {l : List Value} (h : args.toList = l) : args = l.toArray := by rw [← h, Array.toArray_toList]
theorem trodAll_five {t0 t1 t2 t3 t4 : TypeId} {args : Array Value} {ds : List (DataW H)} {ps : List MemPlace} (h : DataW.TrodAll enc P w base spare held [t0, t1, t2, t3, t4] args.toList ds ps) :
    ∃ v0 v1 v2 v3 v4 d0 d1 d2 d3 d4 p0 p1 p2 p3 p4, args = #[v0, v1, v2, v3, v4] ∧ ds = [d0, d1, d2, d3, d4] ∧ ps = p0 ++ (p1 ++ (p2 ++ (p3 ++ p4))) ∧ DataW.Trod enc P w base spare held t0 v0 d0 p0 ∧ DataW.Trod enc P w base spare held t1 v1 d1 p1 ∧ DataW.Trod enc P w base spare held t2 v2 d2 p2 ∧
      DataW.Trod enc P w base spare held t3 v3 d3 p3 ∧ DataW.Trod enc P w base spare held t4 v4 d4 p4 := by
  obtain ⟨v0, r0, d0, e0, p0, q0, ha, rfl, rfl, h0, h'⟩ := trodAll_cons h
  obtain ⟨v1, r1, d1, e1, p1, q1, rfl, rfl, rfl, h1, h'⟩ := trodAll_cons h'
  obtain ⟨v2, r2, d2, e2, p2, q2, rfl, rfl, rfl, h2, h'⟩ := trodAll_cons h'
  obtain ⟨v3, r3, d3, e3, p3, q3, rfl, rfl, rfl, h3, h'⟩ := trodAll_cons h'
  obtain ⟨v4, r4, d4, e4, p4, q4, rfl, rfl, rfl, h4, h'⟩ := trodAll_cons h'
  obtain ⟨rfl, rfl, rfl⟩ := trodAll_nil h'
  exact ⟨v0, v1, v2, v3, v4, d0, d1, d2, d3, d4, p0, p1, p2, p3, p4, args_eq ha, rfl, by simp, h0, h1, h2, h3, h4⟩
theorem trodAll_six {t0 t1 t2 t3 t4 t5 : TypeId} {args : Array Value} {ds : List (DataW H)} {ps : List MemPlace} (h : DataW.TrodAll enc P w base spare held [t0, t1, t2, t3, t4, t5] args.toList ds ps) :
    ∃ v0 v1 v2 v3 v4 v5 d0 d1 d2 d3 d4 d5 p0 p1 p2 p3 p4 p5, args = #[v0, v1, v2, v3, v4, v5] ∧ ds = [d0, d1, d2, d3, d4, d5] ∧ ps = p0 ++ (p1 ++ (p2 ++ (p3 ++ (p4 ++ p5)))) ∧ DataW.Trod enc P w base spare held t0 v0 d0 p0 ∧ DataW.Trod enc P w base spare held t1 v1 d1 p1 ∧ DataW.Trod enc P w base spare held t2 v2 d2 p2 ∧
      DataW.Trod enc P w base spare held t3 v3 d3 p3 ∧ DataW.Trod enc P w base spare held t4 v4 d4 p4 ∧ DataW.Trod enc P w base spare held t5 v5 d5 p5 := by
  obtain ⟨v0, r0, d0, e0, p0, q0, ha, rfl, rfl, h0, h'⟩ := trodAll_cons h
  obtain ⟨v1, r1, d1, e1, p1, q1, rfl, rfl, rfl, h1, h'⟩ := trodAll_cons h'
  obtain ⟨v2, r2, d2, e2, p2, q2, rfl, rfl, rfl, h2, h'⟩ := trodAll_cons h'
  obtain ⟨v3, r3, d3, e3, p3, q3, rfl, rfl, rfl, h3, h'⟩ := trodAll_cons h'
  obtain ⟨v4, r4, d4, e4, p4, q4, rfl, rfl, rfl, h4, h'⟩ := trodAll_cons h'
  obtain ⟨v5, r5, d5, e5, p5, q5, rfl, rfl, rfl, h5, h'⟩ := trodAll_cons h'
  obtain ⟨rfl, rfl, rfl⟩ := trodAll_nil h'
  exact ⟨v0, v1, v2, v3, v4, v5, d0, d1, d2, d3, d4, d5, p0, p1, p2, p3, p4, p5, args_eq ha, rfl, by simp, h0, h1, h2, h3, h4, h5⟩

end Go.Hm
/- What comes in, read as plain data of any type, part by part. No program is named here. -/

namespace Go.Hm
open Go Go.RowKit Go.WideShapes Go.ChangeShapes Go.Deep

section
variable {H : Type} {enc : TypeId × Value → H} {P : Program} {W : World} {t e : TypeId} {cs : List Value}

/-- The cells cs are a datum of type t that came in. -/
def Held (enc : TypeId × Value → H) (P : Program) (W : World) (t : TypeId) (cs : List Value) : Prop :=
  ∃ (fuel : Nat) (d : DataW H) (ps : List MemPlace), DataW.trod enc P W 0 (fun _ => true) true fuel t cs = some (d, ps) ∧ (∀ p ∈ ps, p.block < W.heap.size) ∧ ∀ n ∈ d.weights P t, n ≤ reachBytes

theorem Held.of {v : Value} {d : DataW H} {ps : List MemPlace} (h : DataW.Trod enc P W 0 (fun _ => true) true t v d ps) (hlt : ∀ p ∈ ps, p.block < W.heap.size) (hw : ∀ n ∈ d.weights P t, n ≤ reachBytes) : Held enc P W t v.cells.toList := by
  obtain ⟨fuel, h⟩ := h
  exact ⟨fuel, d, ps, h, hlt, hw⟩
theorem Held.int {k : IntKind} (ht : P.underlying t = some (.int k)) (h : Held enc P W t cs) : ∃ n, cs = [.int k n] ∧ k.min ≤ n ∧ n ≤ k.max := by
  obtain ⟨fuel, d, ps, h, _, _⟩ := h
  obtain ⟨n, rfl, _, hw⟩ := DataW.trod_int ht h
  simp only [Lit.wf, Bool.and_eq_true, decide_eq_true_eq] at hw
  exact ⟨n, rfl, hw.1, hw.2⟩
theorem Held.i64 (ht : P.underlying t = some (.int .i64)) (h : Held enc P W t cs) : ∃ n : Int, cs = [.int .i64 n] ∧ -9223372036854775808 ≤ n ∧ n ≤ 9223372036854775807 := by
  obtain ⟨n, h1, h2, h3⟩ := h.int ht
  simp [IntKind.min, IntKind.max, IntKind.signed, IntKind.bits] at h2 h3
  exact ⟨n, h1, h2, by omega⟩
theorem Held.nat {k : IntKind} (hs : k.signed = false) (ht : P.underlying t = some (.int k)) (h : Held enc P W t cs) : ∃ n : Nat, cs = [.int k (n : Int)] ∧ (n : Int) ≤ k.max := by
  obtain ⟨n, h1, h2, h3⟩ := h.int ht
  simp [IntKind.min, hs] at h2
  obtain ⟨n, rfl⟩ := Int.eq_ofNat_of_zero_le h2
  exact ⟨n, h1, h3⟩
theorem Held.bool (ht : P.underlying t = some .bool) (h : Held enc P W t cs) : ∃ b, cs = [.bool b] := by
  obtain ⟨fuel, d, ps, h, _, _⟩ := h
  obtain ⟨b, rfl, _⟩ := DataW.trod_bool ht h
  exact ⟨b, rfl⟩
theorem bstr_of (s : ByteArray) : ∃ l : List Nat, s = bstr l ∧ (∀ x ∈ l, x < 256) ∧ l.length = s.size := by
  refine ⟨s.data.toList.map UInt8.toNat, ?_, ?_, by simp⟩
  · refine ByteArray.ext ?_
    show s.data = ((s.data.toList.map UInt8.toNat).map UInt8.ofNat).toArray
    rw [List.map_map]
    have : (UInt8.ofNat ∘ UInt8.toNat) = id := by funext x; simp
    rw [this]
    simp
  · intro x hx
    simp only [List.mem_map] at hx
    obtain ⟨y, _, rfl⟩ := hx
    exact y.toNat_lt
theorem Held.string (ht : P.underlying t = some .string) (h : Held enc P W t cs) : ∃ l : List Nat, cs = [.string (bstr l)] ∧ (∀ x ∈ l, x < 256) ∧ l.length ≤ 140737488351232 := by
  obtain ⟨fuel, d, ps, h, _, hw⟩ := h
  obtain ⟨s, rfl, hx, _⟩ := DataW.trod_string ht h
  simp only [Prod.mk.injEq] at hx
  obtain ⟨rfl, _⟩ := hx
  obtain ⟨l, rfl, h8, hl⟩ := bstr_of s
  refine ⟨l, rfl, h8, ?_⟩
  have := hw (bstr l).data.toList.length (by simp [DataW.weights])
  rw [Array.length_toList] at this
  have e : (bstr l).data.size = l.length := hl.symm
  rw [e] at this
  unfold reachBytes at this
  omega
theorem weights_all {d : DataW H} : ∀ {ds : List (DataW H)}, d ∈ ds → ∀ n ∈ d.weights P e, n ∈ DataW.weightsAll P e ds
  | [], h, _, _ => by cases h
  | x :: ds, h, n, hn => by
    rw [DataW.weightsAll, List.mem_append]
    rcases List.mem_cons.1 h with rfl | h
    · exact .inl hn
    · exact .inr (weights_all h n hn)
theorem Held.field {fs : Array Field} (ht : P.underlying t = some (.struct fs)) (h : Held enc P W t cs) : cs.length = P.cellsOf t ∧ ∀ (i : Nat) (f : Field), fs[i]? = some f → Held enc P W f.type ((cs.drop f.offset).take (P.cellsOf f.type)) := by
  obtain ⟨fuel, d, ps, h, hlt, hw⟩ := h
  obtain ⟨xs, n, rfl, hx, hl, hxl, hf⟩ := DataW.trod_struct ht h
  simp only [Prod.mk.injEq] at hx
  obtain ⟨rfl, rfl⟩ := hx
  refine ⟨hl, fun i f hi => ?_⟩
  have hil : i < fs.size := (Array.getElem?_eq_some_iff.1 hi).1
  have hxi : xs[i]? = some (xs[i]'(by omega)) := List.getElem?_eq_getElem (by omega)
  refine ⟨n, (xs[i]'(by omega)).1, (xs[i]'(by omega)).2, (hf i f hi).trans hxi, fun p hp => hlt p (List.mem_flatMap.2 ⟨_, List.getElem_mem _, hp⟩), fun m hm => hw m ?_⟩
  rw [DataW.weights]
  simp only [ht]
  exact DataW.weights_mem_each (j := i) (t := f.type) (d := (xs[i]'(by omega)).1) (by rw [List.getElem?_map, Array.getElem?_toList, hi]; rfl) (by rw [List.getElem?_map, hxi]; rfl) m hm
theorem Held.array {n : Nat} (ht : P.underlying t = some (.array n e)) (h : Held enc P W t cs) : cs.length = P.cellsOf t ∧ ∀ i, i < n → Held enc P W e ((cs.drop (i * P.cellsOf e)).take (P.cellsOf e)) := by
  obtain ⟨fuel, d, ps, h, hlt, hw⟩ := h
  obtain ⟨xs, m, _, hx, hl, hxl, hi⟩ := DataW.trod_array ht h
  simp only [Prod.mk.injEq] at hx
  obtain ⟨rfl, rfl⟩ := hx
  refine ⟨hl, fun i hil => ?_⟩
  have hxi : xs[i]? = some (xs[i]'(by omega)) := List.getElem?_eq_getElem (by omega)
  refine ⟨m, (xs[i]'(by omega)).1, (xs[i]'(by omega)).2, (hi i hil).trans hxi, fun p hp => hlt p (List.mem_flatMap.2 ⟨_, List.getElem_mem _, hp⟩), fun k hk => hw k ?_⟩
  rw [DataW.weights]
  simp only [ht]
  exact weights_all (List.mem_map.2 ⟨_, List.getElem_mem _, rfl⟩) k hk
theorem Held.slice (ht : P.underlying t = some (.slice e)) (h : Held enc P W t cs) :
    cs = [.slice none 0 0] ∨ ∃ (a : Addr) (len cap : Nat), cs = [.slice (some a) len cap] ∧ len ≤ cap ∧ cap ≤ maxLen ∧ cap * P.bytesOf e ≤ reachBytes ∧ (0 < cap * P.cellsOf e → a.block < W.heap.size) ∧
      ∀ i, i < cap → ∃ cs', W.cells? 0 (a.add (i * P.cellsOf e)) (P.cellsOf e) = some cs' ∧ Held enc P W e cs' := by
  obtain ⟨fuel, d, ps, h, hlt, hw⟩ := h
  rcases open_slice ht h with ⟨hcs, _⟩ | ⟨a, len, cap, m, n, D, Pl, hcs, _, hl, hm, hmm, hx, hi⟩
  · exact .inl hcs
  · rw [if_pos rfl] at hmm
    subst hmm
    simp only [Prod.mk.injEq] at hx
    obtain ⟨rfl, rfl⟩ := hx
    have hwm : ∀ x ∈ (m * P.bytesOf e) :: (DataW.weightsAll P e ((List.range len).map D) ++ DataW.weightsAll P e ((List.range (m - len)).map fun j => D (len + j))), x ≤ reachBytes := by
      intro x hx
      refine hw x ?_
      rw [DataW.weights]
      simp only [ht, List.length_map, List.length_range]
      rw [show len + (m - len) = m by omega]
      exact hx
    refine .inr ⟨a, len, m, hcs, hl, hm, hwm _ (by simp), fun h0 => ?_, fun i him => ?_⟩
    · exact hlt (.cell a.block a.off) (by
        rw [List.mem_append]
        left
        unfold MemPlace.row
        simp only [List.mem_map, List.mem_range]
        exact ⟨0, h0, rfl⟩)
    · obtain ⟨cs', hc, ht'⟩ := hi i him
      refine ⟨cs', hc, n, D i, Pl i, ht', fun p hp => hlt p ?_, fun k hk => hwm k ?_⟩
      · rw [List.mem_append]
        right
        exact List.mem_flatMap.2 ⟨i, by simpa using him, hp⟩
      · rw [List.mem_cons, List.mem_append]
        right
        by_cases hil : i < len
        · exact .inl (weights_all (List.mem_map.2 ⟨i, by simpa using hil, rfl⟩) k hk)
        · exact .inr (weights_all (List.mem_map.2 ⟨i - len, by simp; omega, by rw [show len + (i - len) = i by omega]⟩) k hk)

/-- Records as cells, all of one length. -/
def recs {α : Type} (f : α → List Value) (l : List α) : List Value := l.flatMap f
theorem recs_nil {α : Type} (f : α → List Value) : recs f [] = [] := rfl
theorem recs_cons {α : Type} (f : α → List Value) (x : α) (l : List α) : recs f (x :: l) = f x ++ recs f l := rfl
theorem recs_append {α : Type} (f : α → List Value) (l m : List α) : recs f (l ++ m) = recs f l ++ recs f m := by simp [recs]
theorem recs_length {α : Type} {f : α → List Value} {sz : Nat} (hf : ∀ x, (f x).length = sz) (l : List α) : (recs f l).length = l.length * sz := by
  induction l with
  | nil => simp [recs]
  | cons x l ih => rw [recs_cons, List.length_append, hf, ih, List.length_cons, Nat.succ_mul, Nat.add_comm]
theorem recs_at {α : Type} {f : α → List Value} {sz : Nat} (hf : ∀ x, (f x).length = sz) (l : List α) (d : α) : ∀ i j, i < l.length → j < sz → (recs f l)[i * sz + j]? = (f (l.getD i d))[j]? := by
  induction l with
  | nil => intro i j h; simp at h
  | cons x l ih =>
    intro i j hi hj
    cases i with
    | zero =>
      rw [recs_cons, Nat.zero_mul, Nat.zero_add, List.getElem?_append_left (by rw [hf]; exact hj)]
      rfl
    | succ i =>
      rw [recs_cons, List.getElem?_append_right (by rw [hf, Nat.succ_mul]; omega), hf, show (i + 1) * sz + j - sz = i * sz + j by rw [Nat.succ_mul]; omega, ih i j (by simpa using hi) hj]
      simp
theorem recs_drop {α : Type} {f : α → List Value} {sz : Nat} (hf : ∀ x, (f x).length = sz) (l : List α) (k : Nat) (hk : k ≤ l.length) : (recs f l).drop (k * sz) = recs f (l.drop k) := by
  conv => lhs; rw [← List.take_append_drop k l, recs_append]
  rw [List.drop_left']
  rw [recs_length hf, List.length_take, Nat.min_eq_left hk]
theorem recs_take {α : Type} {f : α → List Value} {sz : Nat} (hf : ∀ x, (f x).length = sz) (l : List α) (k : Nat) (hk : k ≤ l.length) : (recs f l).take (k * sz) = recs f (l.take k) := by
  conv => lhs; rw [← List.take_append_drop k l, recs_append]
  rw [List.take_left']
  rw [recs_length hf, List.length_take, Nat.min_eq_left hk]

theorem Reads.rec_ {α : Type} {f : α → List Value} {sz : Nat} (hf : ∀ x, (f x).length = sz) {w : World} {B n i : Nat} {A : Option Addr} {l : List α} (d : α) (h : Reads w B sz A n (recs f l)) (hi : i < n) (h0 : 0 < sz) :
    ∃ ad, A = some ad ∧ ad.block < B ∧ i < l.length ∧ ∀ j u, (f (l.getD i d))[j]? = some u → w.cell? (ad.add (i * sz + j)) = some u := by
  obtain ⟨ad, e, hb, hc⟩ := h.2 (by omega)
  have hl := h.1
  rw [recs_length hf] at hl
  have hll : l.length = n := Nat.eq_of_mul_eq_mul_right h0 hl
  refine ⟨ad, e, hb, by omega, fun j u hu => hc _ u ?_⟩
  have hj : j < sz := by
    rw [← hf (l.getD i d)]
    exact (List.getElem?_eq_some_iff.1 hu).1
  rw [recs_at hf l d i j (by omega) hj]
  exact hu
theorem Reads.lenR {α : Type} {f : α → List Value} {sz : Nat} (hf : ∀ x, (f x).length = sz) {w : World} {B n : Nat} {A : Option Addr} {l : List α} (h : Reads w B sz A n (recs f l)) (h0 : 0 < sz) : n = l.length := by
  have hl := h.1
  rw [recs_length hf] at hl
  exact (Nat.eq_of_mul_eq_mul_right h0 hl).symm

theorem list_choose {α : Type} {p : Nat → α → Prop} (d : α) : ∀ n, (∀ i, i < n → ∃ x, p i x) → ∃ l : List α, l.length = n ∧ ∀ i, i < n → p i (l.getD i d) := by
  intro n
  induction n with
  | zero => intro _; exact ⟨[], rfl, fun i h => by omega⟩
  | succ n ih =>
    intro h
    obtain ⟨l, hl, hp⟩ := ih (fun i hi => h i (by omega))
    obtain ⟨x, hx⟩ := h n (by omega)
    refine ⟨l ++ [x], by simp [hl], fun i hi => ?_⟩
    by_cases hin : i < n
    · have e : (l ++ [x]).getD i d = l.getD i d := by rw [List.getD_eq_getElem?_getD, List.getElem?_append_left (by omega), ← List.getD_eq_getElem?_getD]
      rw [e]; exact hp i hin
    · obtain rfl : i = n := by omega
      have e : (l ++ [x]).getD i d = x := by rw [List.getD_eq_getElem?_getD, List.getElem?_append_right (by omega), hl]; simp
      rw [e]; exact hx

/-- A slice of records comes in. -/
theorem Held.recs {α : Type} {f : α → List Value} {sz by_ : Nat} {Q : α → Prop} (d : α) (ht : P.underlying t = some (.slice e)) (hC : P.cellsOf e = sz) (hby : P.bytesOf e = by_) (hf : ∀ x, (f x).length = sz) (h0 : 0 < sz)
    (hel : ∀ cs, Held enc P W e cs → ∃ x, cs = f x ∧ Q x) (h : Held enc P W t cs) :
    ∃ A c, ∃ l : List α, cs = [.slice A l.length c] ∧ l.length ≤ c ∧ c ≤ maxLen ∧ c * by_ ≤ reachBytes ∧ Reads W W.heap.size sz A l.length (Hm.recs f l) ∧ ∀ x ∈ l, Q x := by
  rcases h.slice ht with rfl | ⟨a, len, cap, rfl, hl, hm, hw, hb, hi⟩
  · exact ⟨none, 0, [], rfl, by simp, by simp [maxLen], by simp, ⟨by simp [Hm.recs], fun h => by simp at h⟩, by simp⟩
  · rw [hC] at hi hb
    rw [hby] at hw
    obtain ⟨l, hll, hp⟩ := list_choose (p := fun i x => W.cells? 0 (a.add (i * sz)) sz = some (f x) ∧ Q x) d len (fun i hil => by
      obtain ⟨cs', hc, hh⟩ := hi i (by omega)
      obtain ⟨x, rfl, hq⟩ := hel cs' hh
      exact ⟨x, hc, hq⟩)
    subst hll
    refine ⟨some a, cap, l, rfl, hl, hm, hw, ⟨by rw [recs_length hf], fun hn => ⟨a, rfl, hb (Nat.mul_pos (by omega) h0), fun j u hu => ?_⟩⟩, fun x hx => ?_⟩
    · have hj : j < l.length * sz := by
        rw [← recs_length hf]
        exact (List.getElem?_eq_some_iff.1 hu).1
      have hjd : j / sz < l.length := by
        rw [Nat.mul_comm] at hj
        exact Nat.div_lt_of_lt_mul hj
      have hjm : j % sz < sz := Nat.mod_lt _ h0
      obtain ⟨hc, _⟩ := hp (j / sz) hjd
      obtain ⟨_, _, hat⟩ := World.cells?_some hc
      have := hat (j % sz) hjm
      rw [Go.Deep.add_add, Nat.mul_comm (j / sz), Nat.div_add_mod] at this
      rw [this, ← hu]
      have e := recs_at hf l d (j / sz) (j % sz) hjd hjm
      rw [Nat.mul_comm (j / sz), Nat.div_add_mod] at e
      rw [e]
    · obtain ⟨i, hi', rfl⟩ := List.getElem_of_mem hx
      have := (hp i hi').2
      rwa [List.getD_eq_getElem?_getD, List.getElem?_eq_getElem hi'] at this
end

end Go.Hm
/- Structs that came in, part by part. No program is named here. -/

namespace Go.Hm
open Go Go.RowKit Go.WideShapes Go.ChangeShapes Go.Deep

section
variable {H : Type} {enc : TypeId × Value → H} {P : Program} {W : World} {t e : TypeId} {cs : List Value} {n : Nat}
def fieldsOf (P : Program) (t : TypeId) : Array Field := match P.underlying t with | some (.struct fs) => fs | _ => #[]
theorem Held.part (h : Held enc P W t cs) (hs : P.underlying t = some (.struct (fieldsOf P t))) (i off n : Nat) {ft : TypeId} (hf : ((fieldsOf P t)[i]?.map fun f => (f.type, f.offset)) = some (ft, off)) (hn : P.cellsOf ft = n) : Held enc P W ft ((cs.drop off).take n) := by
  obtain ⟨_, hall⟩ := h.field hs
  cases hfi : (fieldsOf P t)[i]? with
  | none => rw [hfi] at hf; cases hf
  | some f =>
    rw [hfi] at hf
    simp only [Option.map_some, Option.some.injEq, Prod.mk.injEq] at hf
    obtain ⟨h1, h2⟩ := hf
    have := hall i f hfi
    rw [h1, h2, hn] at this
    exact this
theorem Held.partLen (h : Held enc P W t cs) (hs : P.underlying t = some (.struct (fieldsOf P t))) (hn : P.cellsOf t = n) : cs.length = n := (h.field hs).1.trans hn
theorem ints_recs (l : List Int) : recs (fun n : Int => [.int .i64 n]) l = ints .i64 l := by
  induction l with
  | nil => rfl
  | cons x l ih => rw [recs_cons, ih]; rfl
/-- A slice of numbers within what came in. -/
theorem Held.ints_ {te : TypeId} (ht : P.underlying t = some (.slice te)) (hC : P.cellsOf te = 1) (hby : P.bytesOf te = 8) (hi : P.underlying te = some (.int .i64)) (h : Held enc P W t cs) :
    ∃ A c, ∃ l : List Int, cs = [.slice A l.length c] ∧ l.length ≤ c ∧ c * 8 ≤ 140737488351232 ∧ Reads W W.heap.size 1 A l.length (ints .i64 l) ∧ ∀ x ∈ l, -9223372036854775808 ≤ x ∧ x ≤ 9223372036854775807 := by
  obtain ⟨A, c, l, h1, h2, _, h4, h5, h6⟩ := h.recs (f := fun n : Int => [.int .i64 n]) (sz := 1) (by_ := 8) (Q := fun x => -9223372036854775808 ≤ x ∧ x ≤ 9223372036854775807) 0 ht hC hby (fun _ => rfl) (by omega) (fun cs hh => by
    obtain ⟨n, e1, e2, e3⟩ := hh.i64 hi
    exact ⟨n, e1, e2, e3⟩)
  exact ⟨A, c, l, h1, h2, by unfold reachBytes at h4; omega, by rw [← ints_recs]; exact h5, h6⟩
/-- Only the header of a slice within what came in. -/
theorem Held.head {te : TypeId} (ht : P.underlying t = some (.slice te)) (h : Held enc P W t cs) : ∃ A n c, cs = [.slice A n c] ∧ n ≤ c ∧ c ≤ maxLen := by
  rcases h.slice ht with rfl | ⟨a, len, cap, rfl, hl, hm, _⟩
  · exact ⟨none, 0, 0, rfl, by omega, by simp [maxLen]⟩
  · exact ⟨some a, len, cap, rfl, hl, hm⟩
theorem list3 {α : Type} {l : List α} (h : l.length = 3) : ∃ a b c, l = [a, b, c] := by
  match l, h with
  | [a, b, c], _ => exact ⟨a, b, c, rfl⟩
end

end Go.Hm
/- Numbers packed into bytes, as plain lists. No program is named here. -/

namespace Go.Hm

/-- Numbers of w bits, one behind the other, as one number. -/
def pk (w : Nat) : List Nat → Nat
  | [] => 0
  | x :: l => x + 2 ^ w * pk w l
theorem pk_snoc (w : Nat) (l : List Nat) (x : Nat) : pk w (l ++ [x]) = pk w l + 2 ^ (w * l.length) * x := by
  induction l with
  | nil => simp [pk]
  | cons a l ih =>
    simp only [List.cons_append, pk, ih, List.length_cons]
    rw [Nat.mul_add, Nat.mul_succ, Nat.pow_add]
    simp only [Nat.mul_comm, Nat.mul_left_comm, Nat.add_assoc]
theorem pk_lt (w : Nat) (l : List Nat) (h : ∀ x ∈ l, x < 2 ^ w) : pk w l < 2 ^ (w * l.length) := by
  induction l with
  | nil => simp [pk]
  | cons a l ih =>
    have h1 := ih fun x hx => h x (by simp [hx])
    have h2 := h a (by simp)
    simp only [pk, List.length_cons]
    rw [Nat.mul_succ, Nat.pow_add, Nat.mul_comm (2 ^ (w * l.length))]
    have : 2 ^ w * (pk w l + 1) ≤ 2 ^ w * 2 ^ (w * l.length) := Nat.mul_le_mul_left _ h1
    rw [Nat.mul_add] at this
    omega
/-- The numbers of w bits that a number is made of. -/
def unpk (w : Nat) : Nat → Nat → List Nat
  | 0, _ => []
  | n + 1, B => unpk w n B ++ [B / 2 ^ (w * n) % 2 ^ w]
theorem unpk_len (w n B : Nat) : (unpk w n B).length = n := by induction n <;> simp_all [unpk]
theorem unpk_lt (w n B : Nat) : ∀ x ∈ unpk w n B, x < 2 ^ w := by
  induction n with
  | zero => intro x hx; simp [unpk] at hx
  | succ n ih =>
    intro x hx
    simp only [unpk, List.mem_append, List.mem_singleton] at hx
    rcases hx with hx | hx
    · exact ih x hx
    · subst hx; exact Nat.mod_lt _ (Nat.two_pow_pos w)
theorem unpk_getD (w n B i : Nat) (h : i < n) : (unpk w n B).getD i 0 = B / 2 ^ (w * i) % 2 ^ w := by
  induction n with
  | zero => omega
  | succ n ih =>
    rw [unpk, List.getD_eq_getElem?_getD]
    by_cases hi : i < n
    · rw [List.getElem?_append_left (by rw [unpk_len]; exact hi), ← List.getD_eq_getElem?_getD, ih hi]
    · obtain rfl : i = n := by omega
      rw [List.getElem?_append_right (by rw [unpk_len]; exact Nat.le_refl _), unpk_len]
      simp
theorem pk_unpk (w n B : Nat) : pk w (unpk w n B) = B % 2 ^ (w * n) := by
  induction n with
  | zero => simp [unpk, pk, Nat.mod_one]
  | succ n ih => rw [unpk, pk_snoc, ih, unpk_len, Nat.mul_succ, Nat.pow_add, Nat.mod_mul]
theorem unpk_pk (w : Nat) (l : List Nat) (h : ∀ x ∈ l, x < 2 ^ w) (B : Nat) (hB : B % 2 ^ (w * l.length) = pk w l) : unpk w l.length B = l := by
  have key : ∀ (m : List Nat), (∀ x ∈ m, x < 2 ^ w) → ∀ i, i < m.length → pk w m / 2 ^ (w * i) % 2 ^ w = m.getD i 0 := by
    intro m
    induction m with
    | nil => intro _ i hi; simp at hi
    | cons a m ih =>
      intro hm i hi
      have ha := hm a (by simp)
      cases i with
      | zero => simp [pk, Nat.add_mul_mod_self_left, Nat.mod_eq_of_lt ha]
      | succ i =>
        rw [pk, Nat.mul_succ, Nat.add_comm (w * i), Nat.pow_add, ← Nat.div_div_eq_div_mul, Nat.add_mul_div_left _ _ (Nat.two_pow_pos w), Nat.div_eq_of_lt ha, Nat.zero_add, ih (fun x hx => hm x (by simp [hx])) i (by simpa using hi)]
        simp
  refine List.ext_getElem (unpk_len _ _ _) fun i h1 h2 => ?_
  have e1 : (unpk w l.length B).getD i 0 = (unpk w l.length B)[i] := by rw [List.getD_eq_getElem?_getD, List.getElem?_eq_getElem h1]; rfl
  have e2 : l.getD i 0 = l[i] := by rw [List.getD_eq_getElem?_getD, List.getElem?_eq_getElem h2]; rfl
  rw [← e1, ← e2, unpk_getD w l.length B i h2, ← key l h i h2, ← hB]
  have hs : w * l.length = w * i + (w + w * (l.length - i - 1)) := by
    have e : l.length = i + (1 + (l.length - i - 1)) := by omega
    conv => lhs; rw [e]
    rw [Nat.mul_add, Nat.mul_add, Nat.mul_one]
  rw [hs, Nat.pow_add, Nat.mod_mul_right_div_self, Nat.pow_add, Nat.mod_mul_right_mod]

/-- A list that is as long and has the same numbers. -/
theorem low_getD (X s i : Nat) (h : i < s) : (low X s).getD i 0 = X / 256 ^ i % 256 := by
  induction s with
  | zero => omega
  | succ s ih =>
    rw [low, List.getD_eq_getElem?_getD]
    by_cases hi : i < s
    · rw [List.getElem?_append_left (by rw [low_len]; exact hi), ← List.getD_eq_getElem?_getD, ih hi]
    · obtain rfl : i = s := by omega
      rw [List.getElem?_append_right (by rw [low_len]; exact Nat.le_refl _), low_len]
      simp
theorem low_num (b : List Nat) (h : ∀ x ∈ b, x < 256) : low (num b) b.length = b := by
  have key : ∀ (m : List Nat), (∀ x ∈ m, x < 256) → ∀ i, i < m.length → num m / 256 ^ i % 256 = m.getD i 0 := by
    intro m
    induction m with
    | nil => intro _ i hi; simp at hi
    | cons a m ih =>
      intro hm i hi
      have ha := hm a (by simp)
      cases i with
      | zero => simp [num]; omega
      | succ i =>
        rw [num, Nat.pow_succ, Nat.mul_comm (256 ^ i), ← Nat.div_div_eq_div_mul, show (a + 256 * num m) / 256 = num m by omega, ih (fun x hx => hm x (by simp [hx])) i (by simpa using hi)]
        simp
  refine List.ext_getElem (low_len _ _) fun i h1 h2 => ?_
  have e1 : (low (num b) b.length).getD i 0 = (low (num b) b.length)[i] := by rw [List.getD_eq_getElem?_getD, List.getElem?_eq_getElem h1]; rfl
  have e2 : b.getD i 0 = b[i] := by rw [List.getD_eq_getElem?_getD, List.getElem?_eq_getElem h2]; rfl
  rw [← e1, ← e2, low_getD _ _ _ h2, key b h i h2]
theorem num_byte (b : List Nat) (h : ∀ x ∈ b, x < 256) (i : Nat) (hi : i < b.length) : b.getD i 0 = num b / 256 ^ i % 256 := by
  have := low_getD (num b) b.length i hi
  rwa [low_num b h] at this
theorem low_zero (s : Nat) : low 0 s = List.replicate s 0 := by
  induction s with
  | zero => rfl
  | succ s ih => rw [low, ih, List.replicate_succ']; simp
theorem p256 (k : Nat) : (256 : Nat) ^ k = 2 ^ (8 * k) := by rw [show (256 : Nat) = 2 ^ 8 from rfl, ← Nat.pow_mul]

/-- One more bit, above all that there are. -/
theorem low_set (X s a c : Nat) (ha : a < 8 * s) (hX : X < 2 ^ a) (hc : c ≤ 1) :
    (low X s).set (a / 8) ((low X s).getD (a / 8) 0 + c * 2 ^ (a % 8)) = low (X + c * 2 ^ a) s ∧ (low X s).getD (a / 8) 0 < 2 ^ (a % 8) ∧ (low X s).getD (a / 8) 0 + c * 2 ^ (a % 8) < 256 := by
  have hq : a / 8 < s := by omega
  have ea : 2 ^ a = 256 ^ (a / 8) * 2 ^ (a % 8) := by rw [p256, ← Nat.pow_add]; congr 1; omega
  have hr : 2 ^ (a % 8) ≤ 2 ^ 7 := Nat.pow_le_pow_right (by omega) (by omega)
  have h0 : X / 256 ^ (a / 8) < 2 ^ (a % 8) := by
    apply Nat.div_lt_of_lt_mul
    rw [← ea]; exact hX
  have hb : (low X s).getD (a / 8) 0 = X / 256 ^ (a / 8) := by
    rw [low_getD _ _ _ hq]; exact Nat.mod_eq_of_lt (by omega)
  have hcc : c * 2 ^ (a % 8) ≤ 2 ^ (a % 8) := by
    calc c * 2 ^ (a % 8) ≤ 1 * 2 ^ (a % 8) := Nat.mul_le_mul_right _ hc
      _ = _ := Nat.one_mul _
  have hlt : X / 256 ^ (a / 8) + c * 2 ^ (a % 8) < 256 := by omega
  refine ⟨?_, by rw [hb]; exact h0, by rw [hb]; exact hlt⟩
  refine List.ext_getElem (by simp [low_len]) fun i h1 h2 => ?_
  have h2' : i < s := by rwa [low_len] at h2
  have h1' : i < (low X s).length := by rwa [low_len]
  have e2 : (low (X + c * 2 ^ a) s)[i] = (X + c * 2 ^ a) / 256 ^ i % 256 := by
    rw [← low_getD _ _ _ h2', List.getD_eq_getElem?_getD, List.getElem?_eq_getElem h2]; rfl
  have e1 : (low X s)[i]'h1' = X / 256 ^ i % 256 := by
    rw [← low_getD _ _ _ h2', List.getD_eq_getElem?_getD, List.getElem?_eq_getElem h1']; rfl
  rw [e2, List.getElem_set]
  by_cases hi : a / 8 = i
  · subst hi
    rw [if_pos rfl, hb, ea, show c * (256 ^ (a / 8) * 2 ^ (a % 8)) = 256 ^ (a / 8) * (c * 2 ^ (a % 8)) from Nat.mul_left_comm _ _ _, Nat.add_mul_div_left _ _ (Nat.pow_pos (by omega)), Nat.mod_eq_of_lt hlt]
  · rw [if_neg hi, e1]
    rcases Nat.lt_or_gt_of_ne hi with hlt' | hgt
    · have hp : 2 ^ (a + 1) ≤ 256 ^ i := by rw [p256]; exact Nat.pow_le_pow_right (by omega) (by omega)
      have hca : c * 2 ^ a ≤ 2 ^ a := by
        calc c * 2 ^ a ≤ 1 * 2 ^ a := Nat.mul_le_mul_right _ hc
          _ = _ := Nat.one_mul _
      rw [Nat.pow_succ] at hp
      rw [Nat.div_eq_of_lt (by omega), Nat.div_eq_of_lt (by omega)]
    · have es : 2 ^ a = 256 ^ i * (256 * 2 ^ (a - 8 * (i + 1))) := by
        rw [p256, show (256 : Nat) = 2 ^ 8 from rfl, ← Nat.pow_add, ← Nat.pow_add]; congr 1; omega
      rw [es, show c * (256 ^ i * (256 * 2 ^ (a - 8 * (i + 1)))) = 256 ^ i * (256 * (c * 2 ^ (a - 8 * (i + 1)))) by simp only [Nat.mul_left_comm], Nat.add_mul_div_left _ _ (Nat.pow_pos (by omega)), Nat.add_mul_mod_self_left]
theorem mod_succ_pow (y j : Nat) : y % 2 ^ (j + 1) = y % 2 ^ j + 2 ^ j * (y / 2 ^ j % 2) := by rw [Nat.pow_succ, Nat.mod_mul]
theorem part_lt {X m : Nat} (y j : Nat) (hX : X < 2 ^ m) : X + y % 2 ^ j * 2 ^ m < 2 ^ (m + j) := by
  have h1 : y % 2 ^ j < 2 ^ j := Nat.mod_lt _ (Nat.two_pow_pos _)
  have h2 : (y % 2 ^ j + 1) * 2 ^ m ≤ 2 ^ j * 2 ^ m := Nat.mul_le_mul_right _ h1
  rw [Nat.add_mul, Nat.one_mul] at h2
  rw [Nat.pow_add, Nat.mul_comm (2 ^ m)]
  omega
theorem pack_step {X m : Nat} (s y j a q r t : Nat) (hX : X < 2 ^ m) (ha : a = m + j) (hs : a < 8 * s) (hq : q = a / 8 ∧ r = a % 8) (ht : t = y / 2 ^ j % 2) :
    (low (X + y % 2 ^ j * 2 ^ m) s).getD q 0 < 2 ^ r ∧ (low (X + y % 2 ^ j * 2 ^ m) s).set q ((low (X + y % 2 ^ j * 2 ^ m) s).getD q 0 + t * 2 ^ r) = low (X + y % 2 ^ (j + 1) * 2 ^ m) s := by
  obtain ⟨rfl, rfl⟩ := hq
  have h := low_set (X + y % 2 ^ j * 2 ^ m) s a t hs (by rw [ha]; exact part_lt y j hX) (by omega)
  refine ⟨h.2.1, h.1.trans ?_⟩
  congr 1
  rw [mod_succ_pow, Nat.add_mul, ht, ha, Nat.pow_add, Nat.add_assoc]
  congr 2
  rw [Nat.mul_comm (2 ^ m), ← Nat.mul_assoc, Nat.mul_comm (y / 2 ^ j % 2)]

end Go.Hm
/- Frames, over plain lists: what layer 2 says. No program is named here. -/

namespace Go.Hm
open Go Go.RowKit
/-- A part in a frame. -/
def partL (p : List Nat) : List Nat := low p.length 8 ++ p
/-- The frame of a tag and parts. -/
def frameL (s : List Nat) (L : List (List Nat)) : List Nat := s.length :: (s ++ L.length :: L.flatMap partL)
def frameO (s : List Nat) (L : List (List Nat)) : Option (List Nat) := if 1 ≤ s.length ∧ s.length ≤ 255 ∧ L.length ≤ 255 then some (frameL s L) else none
/-- The part that bytes begin with, and what is behind it. -/
def firstO (b : List Nat) : Option (List Nat × List Nat) :=
  if 8 ≤ b.length ∧ num (b.take 8) ≤ b.length - 8 then some ((b.drop 8).take (num (b.take 8)), b.drop (8 + num (b.take 8))) else none
/-- So many parts that bytes begin with, and what is behind them. -/
def partsO : Nat → List Nat → Option (List (List Nat) × List Nat)
  | 0, b => some ([], b)
  | k + 1, b => (firstO b).bind fun p => (partsO k p.2).map fun q => (p.1 :: q.1, q.2)
/-- The tag and the parts of a frame. -/
def parseO (b : List Nat) : Option (List Nat × List (List Nat)) :=
  if 2 ≤ b.length ∧ b.getD 0 0 ≠ 0 ∧ 2 + b.getD 0 0 ≤ b.length then
    (partsO (b.getD (1 + b.getD 0 0) 0) (b.drop (2 + b.getD 0 0))).bind fun q => if q.2 = [] then some ((b.drop 1).take (b.getD 0 0), q.1) else none
  else none
theorem partL_len (p : List Nat) : (partL p).length = 8 + p.length := by simp [partL, low_len]
theorem partL_lt {p : List Nat} (h : ∀ x ∈ p, x < 256) : ∀ x ∈ partL p, x < 256 := by
  intro x hx
  rcases List.mem_append.1 hx with hx | hx
  · exact low_lt _ _ x hx
  · exact h x hx
theorem parts_lt {L : List (List Nat)} (h : ∀ p ∈ L, ∀ x ∈ p, x < 256) : ∀ x ∈ L.flatMap partL, x < 256 := by
  intro x hx
  obtain ⟨p, hp, hx⟩ := List.mem_flatMap.1 hx
  exact partL_lt (h p hp) x hx
theorem frameO_lt {s : List Nat} {L : List (List Nat)} {f : List Nat} (hs : ∀ x ∈ s, x < 256) (hL : ∀ p ∈ L, ∀ x ∈ p, x < 256) (h : frameO s L = some f) : ∀ x ∈ f, x < 256 := by
  unfold frameO at h
  split at h
  · rename_i hc
    obtain rfl := Option.some.inj h
    intro x hx
    simp only [frameL, List.mem_cons, List.mem_append] at hx
    rcases hx with rfl | hx | rfl | hx
    · omega
    · exact hs x hx
    · omega
    · exact parts_lt hL x hx
  · cases h
theorem parts_len (L : List (List Nat)) : (L.flatMap partL).length = 8 * L.length + (L.map List.length).sum := by
  induction L with
  | nil => rfl
  | cons p L ih => rw [List.flatMap_cons, List.length_append, ih, partL_len, List.length_cons, List.map_cons, List.sum_cons]; omega
theorem frameL_len (s : List Nat) (L : List (List Nat)) : (frameL s L).length = 2 + s.length + 8 * L.length + (L.map List.length).sum := by
  simp only [frameL, List.length_cons, List.length_append, parts_len]; omega
theorem first_part {p r : List Nat} (hp : p.length < 18446744073709551616) : firstO (partL p ++ r) = some (p, r) := by
  have h1 : (partL p ++ r).take 8 = low p.length 8 := by
    rw [partL, List.append_assoc, List.take_append_of_le_length (by rw [low_len]; omega), List.take_of_length_le (by rw [low_len]; omega)]
  have h2 : num (low p.length 8) = p.length := num_low_of_lt (by omega)
  have h3 : (partL p ++ r).drop 8 = p ++ r := by
    rw [partL, List.append_assoc, List.drop_append, low_len, List.drop_of_length_le (by rw [low_len]; omega)]; simp
  have h4 : (partL p ++ r).drop (8 + p.length) = r := by
    rw [← List.drop_drop, h3]; simp
  unfold firstO
  rw [h1, h2, if_pos ⟨by rw [List.length_append, partL_len]; omega, by rw [List.length_append, partL_len]; omega⟩, h3, h4]
  simp
theorem parts_back {L : List (List Nat)} (h : ∀ p ∈ L, p.length < 18446744073709551616) (r : List Nat) : partsO L.length (L.flatMap partL ++ r) = some (L, r) := by
  induction L with
  | nil => rfl
  | cons p L ih =>
    rw [List.length_cons, partsO, List.flatMap_cons, List.append_assoc, first_part (h p (by simp)), Option.bind_some, ih fun q hq => h q (by simp [hq])]
    rfl
theorem num_take_low {b : List Nat} {k : Nat} (h : k ≤ b.length) (h8 : ∀ x ∈ b, x < 256) : low (num (b.take k)) k = b.take k := by
  have h1 : (b.take k).length = k := by rw [List.length_take]; omega
  have := low_num (b.take k) fun x hx => h8 x (List.mem_of_mem_take hx)
  rwa [h1] at this
theorem first_back {b p r : List Nat} (h8 : ∀ x ∈ b, x < 256) (h : firstO b = some (p, r)) : partL p ++ r = b ∧ (∀ x ∈ p, x < 256) ∧ (∀ x ∈ r, x < 256) ∧ r.length + 8 + p.length = b.length := by
  unfold firstO at h
  split at h
  · rename_i hc
    simp only [Option.some.injEq, Prod.mk.injEq] at h
    obtain ⟨rfl, rfl⟩ := h
    have hl : ((b.drop 8).take (num (b.take 8))).length = num (b.take 8) := by rw [List.length_take, List.length_drop]; omega
    refine ⟨?_, fun x hx => h8 x (List.mem_of_mem_drop (List.mem_of_mem_take hx)), fun x hx => h8 x (List.mem_of_mem_drop hx), by rw [hl, List.length_drop]; omega⟩
    unfold partL
    rw [hl, num_take_low hc.1 h8, ← List.drop_drop, List.append_assoc, List.take_append_drop, List.take_append_drop]
  · cases h
theorem parts_of {k : Nat} : ∀ {b : List Nat} {L : List (List Nat)} {r : List Nat}, (∀ x ∈ b, x < 256) → partsO k b = some (L, r) → L.flatMap partL ++ r = b ∧ L.length = k ∧ (∀ p ∈ L, ∀ x ∈ p, x < 256) := by
  induction k with
  | zero =>
    intro b L r h8 h
    simp only [partsO, Option.some.injEq, Prod.mk.injEq] at h
    obtain ⟨rfl, rfl⟩ := h
    exact ⟨rfl, rfl, by simp⟩
  | succ k ih =>
    intro b L r h8 h
    rw [partsO] at h
    cases hf : firstO b with
    | none => rw [hf] at h; cases h
    | some p =>
      obtain ⟨p, r1⟩ := p
      rw [hf, Option.bind_some] at h
      cases hq : partsO k r1 with
      | none => rw [hq] at h; cases h
      | some q =>
        rw [hq] at h
        simp only [Option.map_some, Option.some.injEq, Prod.mk.injEq] at h
        obtain ⟨rfl, rfl⟩ := h
        obtain ⟨h1, h2, h3, _⟩ := first_back h8 hf
        obtain ⟨h4, h5, h6⟩ := ih h3 (show partsO k r1 = some (q.1, q.2) from hq)
        refine ⟨by rw [List.flatMap_cons, List.append_assoc, h4, h1], by rw [List.length_cons, h5], ?_⟩
        intro y hy
        rcases List.mem_cons.1 hy with rfl | hy
        · exact h2
        · exact h6 y hy
/-- A frame is parsed as it was. -/
theorem parse_frame {s : List Nat} {L : List (List Nat)} {f : List Nat} (hL : ∀ p ∈ L, p.length < 18446744073709551616) (h : frameO s L = some f) : parseO f = some (s, L) := by
  unfold frameO at h
  split at h
  · rename_i hc
    obtain rfl := Option.some.inj h
    have h0 : (frameL s L).getD 0 0 = s.length := rfl
    have h1 : (frameL s L).getD (1 + s.length) 0 = L.length := by
      rw [Nat.add_comm]
      simp [frameL, List.getD_eq_getElem?_getD]
    have h2 : (frameL s L).drop (2 + s.length) = L.flatMap partL := by
      rw [show 2 + s.length = s.length + 1 + 1 by omega]
      simp [frameL, List.drop_append]
    have h3 : ((frameL s L).drop 1).take s.length = s := by simp [frameL]
    have hb := parts_back hL []
    rw [List.append_nil] at hb
    unfold parseO
    rw [h0, h1, h2, h3, if_pos ⟨by rw [frameL_len]; omega, by omega, by rw [frameL_len]; omega⟩, hb]
    rfl
  · cases h
/-- What is parsed has that frame. -/
theorem frame_parse {b s : List Nat} {L : List (List Nat)} (h8 : ∀ x ∈ b, x < 256) (h : parseO b = some (s, L)) : frameO s L = some b ∧ (∀ x ∈ s, x < 256) ∧ (∀ p ∈ L, ∀ x ∈ p, x < 256) := by
  unfold parseO at h
  split at h
  · rename_i hc
    cases hq : partsO (b.getD (1 + b.getD 0 0) 0) (b.drop (2 + b.getD 0 0)) with
    | none => rw [hq] at h; cases h
    | some q =>
      rw [hq, Option.bind_some] at h
      split at h
      · rename_i hr
        simp only [Option.some.injEq, Prod.mk.injEq] at h
        obtain ⟨rfl, rfl⟩ := h
        obtain ⟨h4, h5, h6⟩ := parts_of (fun x hx => h8 x (List.mem_of_mem_drop hx)) (show partsO _ _ = some (q.1, q.2) from hq)
        rw [hr, List.append_nil] at h4
        have a1 : b.getD 0 0 < 256 := by
          rw [List.getD_eq_getElem?_getD, List.getElem?_eq_getElem (by omega)]
          exact h8 _ (List.getElem_mem _)
        have a2 : b.getD (1 + b.getD 0 0) 0 < 256 := by
          rw [List.getD_eq_getElem?_getD, List.getElem?_eq_getElem (by omega)]
          exact h8 _ (List.getElem_mem _)
        have hl : ((b.drop 1).take (b.getD 0 0)).length = b.getD 0 0 := by rw [List.length_take, List.length_drop]; omega
        refine ⟨?_, fun x hx => h8 x (List.mem_of_mem_drop (List.mem_of_mem_take hx)), h6⟩
        unfold frameO
        rw [hl, h5, if_pos (by omega)]
        congr 1
        unfold frameL
        rw [hl, h5, h4]
        have e0 : ∀ j, j < b.length → b.drop j = b.getD j 0 :: b.drop (j + 1) := fun j hj => by
          rw [List.drop_eq_getElem_cons hj, List.getD_eq_getElem?_getD, List.getElem?_eq_getElem hj, Option.getD_some]
        have e1 : b.drop (1 + b.getD 0 0) = b.getD (1 + b.getD 0 0) 0 :: b.drop (2 + b.getD 0 0) := by
          rw [e0 _ (by omega), show 1 + b.getD 0 0 + 1 = 2 + b.getD 0 0 by omega]
        have e2 : b = b.getD 0 0 :: b.drop 1 := by
          cases b with
          | nil => simp at hc
          | cons x b => rfl
        rw [← e1, ← List.drop_drop, List.take_append_drop, ← e2]
      · cases h
  · cases h
/-- Unlike tags or parts have unlike frames. -/
theorem frame_apart {s t : List Nat} {L M : List (List Nat)} {f g : List Nat} (hL : ∀ p ∈ L, p.length < 18446744073709551616) (hM : ∀ p ∈ M, p.length < 18446744073709551616) (h : frameO s L = some f) (k : frameO t M = some g) : f = g ↔ s = t ∧ L = M := by
  constructor
  · rintro rfl
    have h1 := parse_frame hL h
    rw [parse_frame hM k] at h1
    simp only [Option.some.injEq, Prod.mk.injEq] at h1
    exact ⟨h1.1.symm, h1.2.symm⟩
  · rintro ⟨rfl, rfl⟩
    rw [h] at k
    exact Option.some.inj k
/-- The digest of a frame. -/
def hashO (s : List Nat) (L : List (List Nat)) : List Int := ((frameO s L).map sumI).getD (List.replicate 32 0)
theorem hashO_len (s : List Nat) (L : List (List Nat)) : (hashO s L).length = 32 := by
  unfold hashO
  cases frameO s L with
  | none => simp
  | some f => exact digI_len _
/-- The first two unlike frames of one digest. -/
def extractO (A B : List (List Nat)) : Option (List Nat × List Nat) := A.findSome? fun x => (B.find? fun y => decide (x ≠ y ∧ sumI x = sumI y)).map fun y => (x, y)
/-- Parts as they lie: where, how many may, and what. -/
abbrev PartS := Option Addr × Nat × List Nat
def partV (d : PartS) : List Value := [.slice d.1 d.2.2.length d.2.1]
theorem partV_len (d : PartS) : (partV d).length = 1 := rfl
/-- Rows of bytes lie in the world. -/
def PartsIn (w : World) (D : List PartS) : Prop := ∀ d ∈ D, Reads w w.heap.size 1 d.1 d.2.2.length (nums .u8 d.2.2) ∧ d.2.2.length ≤ d.2.1 ∧ d.2.1 ≤ 9223372036854775807
theorem PartsIn.later {w w' : World} {D : List PartS} (h : PartsIn w D) (hb : New w w') : PartsIn w' D := fun d hd => ⟨Reads.later (h d hd).1 hb, (h d hd).2⟩
theorem PartsIn.at_ {w : World} {D : List PartS} (h : PartsIn w D) {k : Nat} (hk : k < D.length) : Reads w w.heap.size 1 (D.getD k (none, 0, [])).1 (D.getD k (none, 0, [])).2.2.length (nums .u8 (D.getD k (none, 0, [])).2.2) ∧ (D.getD k (none, 0, [])).2.2.length ≤ (D.getD k (none, 0, [])).2.1 ∧ (D.getD k (none, 0, [])).2.1 ≤ 9223372036854775807 := by
  refine h _ ?_
  rw [List.getD_eq_getElem?_getD, List.getElem?_eq_getElem hk]
  exact List.getElem_mem hk
/-- The bytes of rows. -/
def bytesOf (D : List PartS) : List (List Nat) := D.map fun d => d.2.2
theorem bytesOf_len (D : List PartS) : (bytesOf D).length = D.length := by simp [bytesOf]
theorem bytesOf_at (D : List PartS) (k : Nat) : (bytesOf D).getD k [] = (D.getD k (none, 0, [])).2.2 := by
  unfold bytesOf
  rw [List.getD_eq_getElem?_getD, List.getElem?_map, List.getD_eq_getElem?_getD]
  cases D[k]? <;> rfl
/-- Rows of bytes, as they are read. -/
structure RowsAt (w : World) (A : Option Addr) (n c : Nat) (D : List PartS) : Prop where
  row : Reads w w.heap.size 1 A n (recs partV D)
  parts : PartsIn w D
  cap : n ≤ c
theorem RowsAt.later {w w' : World} {A : Option Addr} {n c : Nat} {D : List PartS} (h : RowsAt w A n c D) (hb : New w w') : RowsAt w' A n c D := ⟨Reads.later h.row hb, h.parts.later hb, h.cap⟩
theorem RowsAt.len {w : World} {A : Option Addr} {n c : Nat} {D : List PartS} (h : RowsAt w A n c D) : n = D.length := by
  have := h.row.1
  rw [recs_length (sz := 1) (fun _ => rfl)] at this
  omega

end Go.Hm
/- What a map of pairs holds, and which two frames are told by it. No program is named here. -/

namespace Go.Hm
open Go Go.RowKit
/-- Of each digest, the place of the first of k frames that has it, and of the first one that is unlike it. -/
def pairsF (B : List (List Nat)) : Nat → List Int → Option (Int × Int)
  | 0, _ => none
  | k + 1, d =>
    if d = sumI (B.getD k []) then
      match pairsF B k d with
      | none => some ((k : Int), -1)
      | some p => if p.2 = -1 ∧ B.getD p.1.toNat [] ≠ B.getD k [] then some (p.1, (k : Int)) else some p
    else pairsF B k d
/-- What such an entry says. -/
def PairIs (B : List (List Nat)) (k : Nat) (d : List Int) : Option (Int × Int) → Prop
  | none => ∀ i, i < k → sumI (B.getD i []) ≠ d
  | some p => ∃ a, a < k ∧ p.1 = (a : Int) ∧ sumI (B.getD a []) = d ∧ (∀ i, i < a → sumI (B.getD i []) ≠ d) ∧
      ((p.2 = -1 ∧ ∀ i, i < k → sumI (B.getD i []) = d → B.getD i [] = B.getD a []) ∨
        ∃ b, b < k ∧ p.2 = (b : Int) ∧ sumI (B.getD b []) = d ∧ B.getD b [] ≠ B.getD a [] ∧ ∀ i, i < b → sumI (B.getD i []) = d → B.getD i [] = B.getD a [])
theorem pairsF_is (B : List (List Nat)) (k : Nat) (d : List Int) : PairIs B k d (pairsF B k d) := by
  induction k with
  | zero => intro i hi; omega
  | succ k ih =>
    rw [pairsF]
    by_cases hd : d = sumI (B.getD k [])
    · rw [if_pos hd]
      cases hp : pairsF B k d with
      | none =>
        rw [hp] at ih
        refine ⟨k, by omega, rfl, hd.symm, ih, .inl ⟨rfl, fun i hi he => ?_⟩⟩
        by_cases hik : i = k
        · rw [hik]
        · exact absurd he (ih i (by omega))
      | some p =>
        rw [hp] at ih
        obtain ⟨a, ha, h1, h2, h3, h4⟩ := ih
        show PairIs B (k + 1) d (if _ then _ else _)
        have hat : p.1.toNat = a := by rw [h1]; rfl
        rw [hat]
        by_cases hc : p.2 = -1 ∧ B.getD a [] ≠ B.getD k []
        · rw [if_pos hc]
          refine ⟨a, by omega, h1, h2, h3, .inr ⟨k, by omega, rfl, hd.symm, fun e => hc.2 e.symm, fun i hi he => ?_⟩⟩
          rcases h4 with ⟨_, h5⟩ | ⟨b, hb, hb2, _⟩
          · exact h5 i hi he
          · rw [hb2] at hc; omega
        · rw [if_neg hc]
          refine ⟨a, by omega, h1, h2, h3, ?_⟩
          rcases h4 with ⟨h5, h6⟩ | ⟨b, hb, h5, h6, h7, h8⟩
          · refine .inl ⟨h5, fun i hi he => ?_⟩
            by_cases hik : i = k
            · rw [hik]
              by_cases heq : B.getD a [] = B.getD k []
              · exact heq.symm
              · exact absurd ⟨h5, heq⟩ hc
            · exact h6 i (by omega) he
          · exact .inr ⟨b, by omega, h5, h6, h7, h8⟩
    · rw [if_neg hd]
      cases hp : pairsF B k d with
      | none =>
        rw [hp] at ih
        intro i hi
        by_cases hik : i = k
        · rw [hik]
          exact fun e => hd e.symm
        · exact ih i (by omega)
      | some p =>
        rw [hp] at ih
        obtain ⟨a, ha, h1, h2, h3, h4⟩ := ih
        refine ⟨a, by omega, h1, h2, h3, ?_⟩
        rcases h4 with ⟨h5, h6⟩ | ⟨b, hb, h5, h6, h7, h8⟩
        · refine .inl ⟨h5, fun i hi he => ?_⟩
          by_cases hik : i = k
          · rw [hik] at he
            exact absurd he.symm hd
          · exact h6 i (by omega) he
        · exact .inr ⟨b, by omega, h5, h6, h7, h8⟩
theorem find_at {α : Type} {B : List α} {d : α} {p : α → Bool} {i : Nat} (hi : i < B.length) (hp : p (B.getD i d) = true) (hn : ∀ j, j < i → p (B.getD j d) = false) : B.find? p = some (B.getD i d) := by
  induction B generalizing i with
  | nil => simp at hi
  | cons x B ih =>
    cases i with
    | zero => rw [List.find?_cons_of_pos (by simpa using hp)]; rfl
    | succ i =>
      have h0 : p x = false := hn 0 (by omega)
      rw [List.find?_cons_of_neg (by simp [h0])]
      exact ih (by simpa using hi) hp fun j hj => hn (j + 1) (by omega)
theorem find_no {α : Type} {B : List α} {d : α} {p : α → Bool} (hn : ∀ j, j < B.length → p (B.getD j d) = false) : B.find? p = none := by
  rw [List.find?_eq_none]
  intro x hx
  obtain ⟨i, hi, rfl⟩ := List.getElem_of_mem hx
  have := hn i hi
  rw [List.getD_eq_getElem?_getD, List.getElem?_eq_getElem hi, Option.getD_some] at this
  simp [this]
/-- The first frame that is unlike x and has its digest, by the map. -/
theorem find_pairs (B : List (List Nat)) (x : List Nat) :
    (B.find? fun y => decide (x ≠ y ∧ sumI x = sumI y)) = (match pairsF B B.length (sumI x) with
      | none => none
      | some p => if x ≠ B.getD p.1.toNat [] then some (B.getD p.1.toNat []) else if p.2 ≠ -1 then some (B.getD p.2.toNat []) else none) := by
  have h := pairsF_is B B.length (sumI x)
  cases hp : pairsF B B.length (sumI x) with
  | none =>
    rw [hp] at h
    exact find_no (d := []) fun j hj => decide_eq_false fun hc => h j hj hc.2.symm
  | some p =>
    rw [hp] at h
    obtain ⟨a, ha, h1, h2, h3, h4⟩ := h
    have hat : p.1.toNat = a := by rw [h1]; rfl
    simp only [hat]
    by_cases hx : x ≠ B.getD a []
    · rw [if_pos hx]
      exact find_at ha (decide_eq_true ⟨hx, h2.symm⟩) fun j hj => decide_eq_false fun hc => h3 j hj hc.2.symm
    · rw [if_neg hx]
      have hx : x = B.getD a [] := Classical.not_not.1 hx
      rcases h4 with ⟨h5, h6⟩ | ⟨b, hb, h5, h6, h7, h8⟩
      · rw [if_neg (by rw [h5]; simp)]
        exact find_no (d := []) fun j hj => decide_eq_false fun hc => hc.1 (by rw [h6 j hj hc.2.symm]; exact hx)
      · rw [if_pos (by rw [h5]; omega), h5, Int.toNat_natCast]
        exact find_at hb (decide_eq_true ⟨by rw [hx]; exact fun e => h7 e.symm, h6.symm⟩) fun j hj => decide_eq_false fun hc => hc.1 (by rw [h8 j hj hc.2.symm]; exact hx)

end Go.Hm
