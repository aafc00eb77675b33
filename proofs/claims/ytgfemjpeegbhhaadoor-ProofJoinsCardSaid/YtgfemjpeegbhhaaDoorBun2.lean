/- Texts merged, for a claim has at most 60 files: ShaS, ShaW, ShaC, ShaR, By, ShaP, ShaQ, ShaF. -/
import Derived.Deep.MidRow
import Derived.Laws.Cover3
import Derived.Lib.Hide
import Derived.Test.YtgfemjpeegbhhaaDoorBun1
/- Contract on sha.schedule. -/

namespace Go.Proofs.YtgfemjpeegbhhaaDoor
open Go.RowKit Go.Hm
theorem blk_cell {w : World} {g : Nat} {ty : TypeId} {l : List Int} {k : IntKind} {i : Nat} (h : Blk w g ty (ints k l).toArray) (hi : i < l.length) : w.cell? ⟨g, i, none⟩ = some (.int k (l.getD i 0)) := by
  rw [h.cell]
  simpa using ints_at k l i hi
theorem blk_cellN {w : World} {g : Nat} {ty : TypeId} {l : List Nat} {k : IntKind} {i : Nat} (h : Blk w g ty (nums k l).toArray) (hi : i < l.length) : w.cell? ⟨g, i, none⟩ = some (.int k ((l.getD i 0 : Nat) : Int)) := by
  rw [h.cell]
  simpa using nums_at k l i hi
theorem blk_setI {w : World} {g : Nat} {ty : TypeId} {l : List Int} {k : IntKind} {i : Nat} (h : Blk w g ty (ints k l).toArray) (x : Int) : Blk (w.setCell ⟨g, i, none⟩ (.int k x)) g ty (ints k (l.set i x)).toArray := by
  have := h.set_ i (.int k x)
  simpa [ints, List.map_set] using this
theorem blk_setRow {w : World} {g : Nat} {ty : TypeId} {old : Array Value} (h : Blk w g ty old) (cs : Array Value) : Blk (w.setRow g cs) g ty cs := by
  unfold Blk at h ⊢
  simp [World.setRow, Array.getElem?_modify, h]
theorem far_setRow {g : Nat} (w : World) (cs : Array Value) : Far g w (w.setRow g cs) :=
  ⟨rfl, rfl, rfl, by simp [World.setRow], fun k _ hne => by simp [World.setRow, Array.getElem?_modify]; intro e; subst e; exact absurd rfl hne⟩
theorem far_set {g i : Nat} (u : Value) (w : World) : Far g w (w.setCell ⟨g, i, none⟩ u) :=
  ⟨rfl, rfl, rfl, by simp [World.setCell], fun k _ hne => Below.heap_setCell _ _ _ _ (by rintro rfl; exact hne rfl)⟩
/-- Only block g is turned, which is new: nothing that was is turned. -/
theorem New.far {w w0 w1 : World} {g : Nat} (h : New w w0) (k : Far g w0 w1) (hg : w.heap.size ≤ g) : New w w1 := Far.below h k hg (Nat.le_refl _)
theorem row_of_blk {w : World} {g : Nat} {ty : TypeId} {cs : Array Value} (h : Blk w g ty cs) : w.heap[g]? = some (.cells cs ty (0, 0)) := h
theorem ints_one (k : IntKind) (l : List Int) : (ints k l).toArray.all (·.oneCell') = true := by
  rw [List.all_toArray, List.all_eq_true]
  intro u hu
  simp only [ints, List.mem_map] at hu
  obtain ⟨z, _, rfl⟩ := hu
  rfl
def zero64 : List Int := List.replicate 64 0
set_option maxHeartbeats 4000000 in
set_option maxRecDepth 100000 in
theorem sched_any {w : World} (B : List Nat) (hB : B.length = 64) (h8 : ∀ x ∈ B, x < 256) :
    Calls Tryd.prog 65 #[.agg (nums .u8 B).toArray] w (NewPost (.agg (ints .u32 (schedI B)).toArray) w) := by
  have hWL : (wordsI B).length = 16 := by simp [wordsI]
  have HWL := Lib.hid hWL
  clear hWL
  go_enter Tryd.func65, Tryd.ntmps65
  go_wp2
  go_loopw [10] (fun i wr => ∃ k : Nat, k ≤ 16 ∧ i = .int .i64 (k : Int) ∧ Hid (Blk wr (w.heap.size + 1 + 1) 92 (ints .u32 (padI ((wordsI B).take k))).toArray) ∧ Hid (Blk wr w.heap.size 74 (nums .u8 B).toArray) ∧ Hid (Blk wr (w.heap.size + 1) 92 (ints .u32 zero64).toArray) ∧ New w wr) (fun i _ => 16 - (intOf i).toNat)
  case atStart =>
    refine ⟨0, by omega, rfl, Lib.hid ?_, Lib.hid ?_, Lib.hid ?_, ?_⟩
    · have h := Blk.new ((w.alloc (.cells (nums .u8 B).toArray 74)).alloc (.cells (ints .u32 zero64).toArray 92)) 92 (ints .u32 zero64).toArray
      simp only [World.alloc, Array.size_push] at h
      exact h
    · exact ((Blk.new w _ _).alloc _).alloc _
    · have h := (Blk.new (w.alloc (.cells (nums .u8 B).toArray 74)) 92 (ints .u32 zero64).toArray).alloc (.cells (ints .u32 zero64).toArray 92)
      simp only [World.alloc, Array.size_push] at h
      exact h
    · exact (((Below.refl _ _).alloc (Nat.le_refl _) _).alloc (by simp) _).alloc (by simp; omega) _
  case round =>
    obtain ⟨k, hk, rfl, T, P, Z, b⟩ := hrel
    by_cases hlt : k < 16
    · obtain ⟨a, ha⟩ : ∃ a, a = 4 * k := ⟨_, rfl⟩
      obtain ⟨a1, ha1⟩ : ∃ a, a = 4 * k + 1 := ⟨_, rfl⟩
      obtain ⟨a2, ha2⟩ : ∃ a, a = 4 * k + 2 := ⟨_, rfl⟩
      obtain ⟨a3, ha3⟩ : ∃ a, a = 4 * k + 3 := ⟨_, rfl⟩
      have i0 : IntKind.i64.wrap (4 * (k : Int)) = (a : Int) := by rw [IntKind.wrap_i64]; omega
      have i1 : IntKind.i64.wrap ((a : Int) + 1) = (a1 : Int) := by rw [IntKind.wrap_i64]; omega
      have i2 : IntKind.i64.wrap ((a : Int) + 2) = (a2 : Int) := by rw [IntKind.wrap_i64]; omega
      have i3 : IntKind.i64.wrap ((a : Int) + 3) = (a3 : Int) := by rw [IntKind.wrap_i64]; omega
      have j0 : (a : Int) < 64 := by omega
      have j1 : (a1 : Int) < 64 := by omega
      have j2 : (a2 : Int) < 64 := by omega
      have j3 : (a3 : Int) < 64 := by omega
      have hx0 := getD_lt B a h8
      have hx1 := getD_lt B a1 h8
      have hx2 := getD_lt B a2 h8
      have hx3 := getD_lt B a3 h8
      have hst := wordsI_take (B := B) hlt
      rw [← ha1, ← ha2, ← ha3, ← ha] at hst
      have hor := or_word hx0 hx1 hx2 hx3
      have hset := padI_set (l := (wordsI B).take k) (by rw [List.length_take, HWL.out]; omega) (wordI (B.getD a 0) (B.getD a1 0) (B.getD a2 0) (B.getD a3 0))
      rw [← hst, List.length_take, HWL.out, Nat.min_eq_left (by omega)] at hset
      have F := Lib.hid (fun (W : World) (hW : Far (w.heap.size + 1 + 1) wr W) => show W.cell? ⟨w.heap.size, a, none⟩ = some (.int .u8 ((B.getD a 0 : Nat) : Int)) ∧ W.cell? ⟨w.heap.size, a1, none⟩ = some (.int .u8 ((B.getD a1 0 : Nat) : Int)) ∧ W.cell? ⟨w.heap.size, a2, none⟩ = some (.int .u8 ((B.getD a2 0 : Nat) : Int)) ∧ W.cell? ⟨w.heap.size, a3, none⟩ = some (.int .u8 ((B.getD a3 0 : Nat) : Int)) by
        have P2 := P.out.grown hW (by simp; omega)
        exact ⟨blk_cellN P2 (by omega), blk_cellN P2 (by omega), blk_cellN P2 (by omega), blk_cellN P2 (by omega)⟩)
      generalize B.getD a 0 = x0 at *
      generalize B.getD a1 0 = x1 at *
      generalize B.getD a2 0 = x2 at *
      generalize B.getD a3 0 = x3 at *
      have HSET := Lib.hid hset
      have HOR := Lib.hid hor
      have hk64 : (k : Int) < 64 := by omega
      have HT := Lib.hid (padI_len (l := (wordsI B).take k) (by rw [List.length_take, HWL.out]; omega))
      clear ha ha1 ha2 ha3 hst hset hor hx0 hx1 hx2 hx3
      go_wp2
      refine wp_region_up (Far (w.heap.size + 1 + 1)) [(true, 0), (true, 1), (true, 2), (true, 3), (true, 4), (true, 5), (true, 6), (true, 7), (true, 8), (true, 9), (true, 10), (true, 11), (true, 12), (true, 13), (true, 14), (true, 15), (true, 16), (true, 17), (true, 18), (true, 19), (true, 20), (true, 21), (true, 22), (true, 23), (true, 24), (true, 25), (true, 26), (true, 27), (true, 28), (true, 29), (true, 30), (false, 31)]
        (Far.refl _) Far.trans (by kernel_rfl) (by kernel_rfl) (by kernel_rfl) (by kernel_rfl) ?_
      iterate 31 (
        refine up_quiet rfl rfl (v := ?_) (fun W hW => ?_) ?_
        rotate_left
        · obtain ⟨y0, y1, y2, y3⟩ := F.out W (Far.trans (Far.drew _ wr) hW)
          go_simp <;> with_reducible rfl
        simp only [Act.put, List.setIfInBounds_toArray, List.set_cons_zero, List.set_cons_succ])
      rw [HOR.out]
      have T2 : Blk wr.drew (w.heap.size + 1 + 1) 92 (ints .u32 (padI ((wordsI B).take k))).toArray := T.out
      have z0 := blk_cell (i := k) T2 (by rw [HT.out]; omega)
      have f0 := T2.frozen k
      have hF : Far (w.heap.size + 1 + 1) wr.drew (wr.drew.setCell ⟨w.heap.size + 1 + 1, k, none⟩ (.int .u32 (wordI x0 x1 x2 x3))) := far_set _ _
      have T3 := Lib.hid (blk_setI T2 (i := k) (wordI x0 x1 x2 x3))
      clear T2
      refine up_call rfl rfl (fun K hK => ?_)
      go_simp
      refine hK _ _ hF ?_
      clear hK z0 f0
      refine up_nil ?_
      rw [HSET.out] at T3
      have hF2 := Far.trans (Far.drew _ wr) hF
      have P3 := Lib.hid (P.out.grown hF2 (by simp; omega))
      have Z3 := Lib.hid (Z.out.grown hF2 (by simp))
      have b3 := New.far b hF2 (by omega)
      clear F HSET HOR HT hF hF2 i0 i1 i2 i3 j0 j1 j2 j3
      go_wp2
      go_roundw
      case rel => exact ⟨k + 1, by omega, by go_num, T3, P3, Z3, b3⟩
      case measure => simp [intOf]; omega
    · have hT := T.out
      rw [List.take_of_length_le (by rw [HWL.out]; omega)] at hT
      have HT0 : Hid (Blk wr (w.heap.size + 1 + 1) 92 (ints .u32 (padI (schedN B 0))).toArray) := Lib.hid hT
      clear hT T
      go_wp2
      go_loopw [5] (fun i wr => ∃ t j : Nat, Hid (t = 16 + j) ∧ 16 ≤ t ∧ t ≤ 64 ∧ i = .int .i64 (t : Int) ∧ Hid (Blk wr (w.heap.size + 1 + 1) 92 (ints .u32 (padI (schedN B j))).toArray) ∧ Hid (Blk wr (w.heap.size + 1) 92 (ints .u32 zero64).toArray) ∧ New w wr) (fun i _ => 64 - (intOf i).toNat)
      case atStart => exact ⟨16, 0, Lib.hid rfl, by omega, by omega, rfl, HT0, Z, b⟩
      case round =>
        clear P Z b HT0
        obtain ⟨t, j, HTJ, ht1, ht2, rfl, T, Z, b⟩ := hrel
        by_cases hlt : t < 64
        · obtain ⟨b15, hb15⟩ : ∃ a, a = t - 15 := ⟨_, rfl⟩
          obtain ⟨b2, hb2⟩ : ∃ a, a = t - 2 := ⟨_, rfl⟩
          obtain ⟨b16, hb16⟩ : ∃ a, a = t - 16 := ⟨_, rfl⟩
          obtain ⟨b7, hb7⟩ : ∃ a, a = t - 7 := ⟨_, rfl⟩
          have i15 : IntKind.i64.wrap ((t : Int) - 15) = (b15 : Int) := by rw [IntKind.wrap_i64]; omega
          have i2 : IntKind.i64.wrap ((t : Int) - 2) = (b2 : Int) := by rw [IntKind.wrap_i64]; omega
          have i16 : IntKind.i64.wrap ((t : Int) - 16) = (b16 : Int) := by rw [IntKind.wrap_i64]; omega
          have i7 : IntKind.i64.wrap ((t : Int) - 7) = (b7 : Int) := by rw [IntKind.wrap_i64]; omega
          have j15 : (b15 : Int) < 64 := by omega
          have j2 : (b2 : Int) < 64 := by omega
          have j16 : (b16 : Int) < 64 := by omega
          have j7 : (b7 : Int) < 64 := by omega
          have jt : (t : Int) < 64 := by omega
          have hlen : (schedN B j).length = t := by rw [schedN_len, HTJ.out]
          have hplen : (padI (schedN B j)).length = 64 := padI_len (by omega)
          have hU := schedN_U B h8 j
          have hset := padI_set (l := schedN B j) (by omega) (nextW (schedN B j))
          rw [hlen, show schedN B j ++ [nextW (schedN B j)] = schedN B (j + 1) from rfl] at hset
          have hnext : nextW (schedN B j) = IntKind.u32.wrap (IntKind.u32.wrap (IntKind.u32.wrap ((schedN B j).getD b16 0 + bits .xor .u32 (bits .xor .u32 (rot ((schedN B j).getD b15 0) 7) (rot ((schedN B j).getD b15 0) 18)) ((schedN B j).getD b15 0 / 8)) + (schedN B j).getD b7 0)
            + bits .xor .u32 (bits .xor .u32 (rot ((schedN B j).getD b2 0) 17) (rot ((schedN B j).getD b2 0) 19)) ((schedN B j).getD b2 0 / 1024)) := by
            unfold nextW
            rw [hlen, ← hb15, ← hb2, ← hb16, ← hb7]
          have F := Lib.hid (fun (W : World) (hW : Far (w.heap.size + 1 + 1) wr W) (hN : New wr W) => show W.cell? ⟨w.heap.size + 1 + 1, b15, none⟩ = some (.int .u32 ((schedN B j).getD b15 0)) ∧ W.cell? ⟨w.heap.size + 1 + 1, b2, none⟩ = some (.int .u32 ((schedN B j).getD b2 0)) ∧ W.cell? ⟨w.heap.size + 1 + 1, b16, none⟩ = some (.int .u32 ((schedN B j).getD b16 0)) ∧ W.cell? ⟨w.heap.size + 1 + 1, b7, none⟩ = some (.int .u32 ((schedN B j).getD b7 0)) by
            have T2 := T.out.below hN T.out.lt
            have c15 := blk_cell (i := b15) T2 (by omega)
            have c2 := blk_cell (i := b2) T2 (by omega)
            have c16 := blk_cell (i := b16) T2 (by omega)
            have c7 := blk_cell (i := b7) T2 (by omega)
            rw [padI_get (by omega)] at c15 c2 c16 c7
            exact ⟨c15, c2, c16, c7⟩)
          have hux := getD_U (k := b15) hU
          have huy := getD_U (k := b2) hU
          generalize nextW (schedN B j) = nx at *
          generalize (schedN B j).getD b15 0 = x at *
          generalize (schedN B j).getD b2 0 = y at *
          generalize (schedN B j).getD b16 0 = v at *
          generalize (schedN B j).getD b7 0 = u at *
          have T7 := Lib.hid (fun W : World => show Calls Tryd.prog 66 #[.int .u32 x, .int .i64 7] W (DrewPost (.int .u32 (rot x 7)) W) from turn_any x 7 hux (by omega))
          have T18 := Lib.hid (fun W : World => show Calls Tryd.prog 66 #[.int .u32 x, .int .i64 18] W (DrewPost (.int .u32 (rot x 18)) W) from turn_any x 18 hux (by omega))
          have T17 := Lib.hid (fun W : World => show Calls Tryd.prog 66 #[.int .u32 y, .int .i64 17] W (DrewPost (.int .u32 (rot y 17)) W) from turn_any y 17 huy (by omega))
          have T19 := Lib.hid (fun W : World => show Calls Tryd.prog 66 #[.int .u32 y, .int .i64 19] W (DrewPost (.int .u32 (rot y 19)) W) from turn_any y 19 huy (by omega))
          have HSET := Lib.hid hset
          have HNEXT := Lib.hid hnext
          have HLEN := Lib.hid hplen
          clear hset hnext hplen hlen hux huy hU hb15 hb2 hb16 hb7
          generalize rot x 7 = r7 at *
          generalize rot x 18 = r18 at *
          generalize rot y 17 = r17 at *
          generalize rot y 19 = r19 at *
          go_wp2
          refine wp_region_up New [(true, 0), (true, 1), (true, 2), (true, 3), (true, 4), (true, 5), (true, 6), (true, 7), (true, 8), (true, 9)]
            New.refl New.trans (by kernel_rfl) (by kernel_rfl) (by kernel_rfl) (by kernel_rfl) ?_
          have hN := New.drew wr
          iterate 10 (
            refine up_quiet rfl rfl (v := ?_) (fun W hW => ?_) ?_
            rotate_left
            · obtain ⟨y0, y1, y2, y3⟩ := F.out W (Far.of_new (New.trans hN hW)) (New.trans hN hW)
              go_simp <;> with_reducible rfl
            simp only [Act.put, List.setIfInBounds_toArray, List.set_cons_zero, List.set_cons_succ])
          refine up_nil ?_
          go_wp2_with fail
          (with_reducible refine (T7.out _).mono ?_)
          rintro e w2 ⟨rfl, k2, rfl⟩
          replace hN := New.trans hN (new_drewN _ k2)
          go_wp2_with fail
          (with_reducible refine (T18.out _).mono ?_)
          rintro e w2 ⟨rfl, k3, rfl⟩
          replace hN := New.trans hN (new_drewN _ k3)
          go_wp2_with fail
          (with_reducible refine (T17.out _).mono ?_)
          rintro e w2 ⟨rfl, k4, rfl⟩
          replace hN := New.trans hN (new_drewN _ k4)
          go_wp2_with fail
          (with_reducible refine (T19.out _).mono ?_)
          rintro e w2 ⟨rfl, k5, rfl⟩
          replace hN := New.trans hN (new_drewN _ k5)
          go_wp2_with fail
          refine wp_region_upT New 15 [(1, 0), (1, 1), (1, 2), (1, 3), (0, 4), (1, 5), (1, 6), (1, 7), (1, 8), (1, 9), (0, 10), (1, 11), (1, 12), (1, 13), (1, 14), (2, 15)]
            New.refl New.trans (by kernel_rfl) (by kernel_rfl) (by kernel_rfl) (by kernel_rfl) ?_
          obtain ⟨V, hV⟩ : ∃ V, V = (wr.drewN (1 + k2 + k3 + k4 + k5)).drew := ⟨_, rfl⟩
          have hN2 : New wr V := by rw [hV]; exact New.trans (new_drewN _ _) (New.drew _)
          have TD : Blk V (w.heap.size + 1 + 1) 92 (ints .u32 (padI (schedN B j))).toArray := by rw [hV]; exact T.out
          have ZD : Blk V (w.heap.size + 1) 92 (ints .u32 zero64).toArray := by rw [hV]; exact Z.out
          rw [← hV]
          have HTD := Lib.hid TD
          have HZD := Lib.hid ZD
          clear hV TD ZD hN
          repeat (first
            | (refine upT_pure rfl rfl (v := ?_) (fun W => ?_) ?_; rotate_left; (go_simp <;> with_reducible rfl); simp only [Act.put, List.setIfInBounds_toArray, List.set_cons_zero, List.set_cons_succ])
            | (refine upT_quiet rfl rfl (v := ?_) (fun W hW => ?_) ?_; rotate_left; (obtain ⟨y0, y1, y2, y3⟩ := F.out W (Far.of_new (New.trans hN2 hW)) (New.trans hN2 hW); go_simp <;> with_reducible rfl); simp only [Act.put, List.setIfInBounds_toArray, List.set_cons_zero, List.set_cons_succ]))
          rw [← HNEXT.out]
          have z0 := blk_cell (i := t) HTD.out (by rw [HLEN.out]; omega)
          have f0 := HTD.out.frozen t
          have hF : Far (w.heap.size + 1 + 1) V (V.setCell ⟨w.heap.size + 1 + 1, t, none⟩ (.int .u32 nx)) := far_set _ _
          have T3 := Lib.hid (blk_setI HTD.out (i := t) nx)
          rw [HSET.out] at T3
          have Z3 := Lib.hid (HZD.out.grown hF (by simp))
          have b3 := New.far (New.trans b hN2) hF (by omega)
          refine upT_call rfl rfl (fun K hK => ?_)
          go_simp
          refine hK _ _ (.inr (.inl rfl)) ?_
          clear hK z0 f0 hF
          refine upT_nil ?_
          have HTJ2 := Lib.hid (show t + 1 = 16 + (j + 1) by rw [HTJ.out]; omega)
          clear F HSET HNEXT HLEN HTD HZD i15 i2 i16 i7 j15 j2 j16 j7 jt T7 T17 T18 T19
          go_wp2
          go_roundw
          case rel => exact ⟨t + 1, j + 1, HTJ2, by omega, by omega, by go_num, T3, Z3, b3⟩
          case measure => simp [intOf]; omega
        · obtain rfl : t = 64 := by omega
          have hj : j = 48 := by have := HTJ.out; omega
          subst hj
          have hlen : (schedN B 48).length = 64 := by rw [schedN_len]
          have hT := T.out
          rw [padI_full hlen] at hT
          have hsz : (ints .u32 (schedN B 48)).toArray.size = 64 := by simp [ints, hlen]
          have hz : (ints .u32 zero64).toArray.size = 64 := by simp [ints, zero64]
          have i1 : (Tryd.prog.info? 92).map (·.size) = some (ints .u32 (schedN B 48)).toArray.size := by rw [hsz]; kernel_rfl
          have G1 := row_of_blk hT
          have G2 := row_of_blk Z.out
          have hR := blk_setRow Z.out (ints .u32 (schedN B 48)).toArray
          have hF := far_setRow (g := w.heap.size + 1) wr (ints .u32 (schedN B 48)).toArray
          have bE := New.far b hF (by omega)
          have H := Lib.hid (And.intro hsz (And.intro hz (And.intro i1 (And.intro G1 (And.intro G2 (And.intro hR bE))))))
          have hS : schedN B 48 = schedI B := rfl
          rw [hS] at H
          have hone := ints_one .u32 (schedI B)
          have HONE := Lib.hid hone
          generalize (ints .u32 (schedI B)).toArray = cs at *
          clear hT hsz hz i1 G1 G2 hR hF bE hS hone T Z hlen
          go_wp2_with (first
            | (refine wpList_load_row rfl 92 (.tmp 3) rfl (w.heap.size + 1 + 1) rfl _ cs _ _ H.out.2.2.2.1 (show Tryd.prog.underlying 92 = some (.array 64 70) by kernel_rfl) rfl H.out.2.2.1 ?_)
            | (refine wpList_store_row rfl 92 (.tmp 2) (.tmp 88) rfl (w.heap.size + 1) cs rfl rfl _ _ H.out.2.2.2.2.1 H.out.2.2.1 (by rw [H.out.1, H.out.2.1]) HONE.out ?_))
          exact bodyPost_ret (results_cell_row rfl _ _ (w.heap.size + 1) _ cs (0, 0) _ rfl H.out.2.2.2.2.2.1 (show Tryd.prog.underlying 92 = some (.array 64 70) by kernel_rfl) rfl H.out.2.2.1) rfl ⟨rfl, H.out.2.2.2.2.2.2⟩

end Go.Proofs.YtgfemjpeegbhhaaDoor
/- Contract on ref01.words. -/

namespace Go.Hm
open Go Go.RowKit
/-- The number of so many bytes. -/
def horN (B : List Nat) (k : Nat) : Nat → Nat
  | 0 => 0
  | m + 1 => horN B k m * 256 + B.getD (4 * k + m) 0
theorem horN_lt {B : List Nat} {k : Nat} (h8 : ∀ x ∈ B, x < 256) (m : Nat) : horN B k m < 256 ^ m := by
  induction m with
  | zero => simp [horN]
  | succ m ih =>
    have := getD_lt B (4 * k + m) h8
    rw [horN, Nat.pow_succ]
    omega
theorem horN_step {B : List Nat} {k m : Nat} (h8 : ∀ x ∈ B, x < 256) (hm : m < 4) :
    IntKind.u32.wrap (IntKind.u32.wrap (256 * ((horN B k m : Nat) : Int)) + IntKind.u32.wrap ((B.getD (4 * k + m) 0 : Nat) : Int)) = ((horN B k (m + 1) : Nat) : Int) := by
  have h1 := horN_lt (k := k) h8 m
  have h2 := getD_lt B (4 * k + m) h8
  have h3 : 256 ^ m ≤ 16777216 := by
    have : (256 : Nat) ^ m ≤ 256 ^ 3 := Nat.pow_le_pow_right (by omega) (by omega)
    exact Nat.le_trans this (by decide)
  rw [IntKind.wrap_u32', IntKind.wrap_u32', IntKind.wrap_u32', horN]
  omega
theorem horN_four (B : List Nat) (k : Nat) : ((horN B k 4 : Nat) : Int) = wordI (B.getD (4 * k) 0) (B.getD (4 * k + 1) 0) (B.getD (4 * k + 2) 0) (B.getD (4 * k + 3) 0) := by
  simp [horN, wordI]
theorem padI_zero {l : List Int} (h : l.length < 64) : (padI l).set l.length 0 = padI l := by
  rw [padI_set h]
  unfold padI
  rw [show 64 - l.length = (64 - (l ++ [0]).length) + 1 by simp; omega, List.replicate_succ]
  simp

end Go.Hm

namespace Go.Proofs.YtgfemjpeegbhhaaDoor
open Go.RowKit Go.Hm
set_option maxHeartbeats 4000000 in
set_option maxRecDepth 100000 in
theorem words_any {w : World} (B : List Nat) (hB : B.length = 64) (h8 : ∀ x ∈ B, x < 256) :
    Calls Tryd.prog 72 #[.agg (nums .u8 B).toArray] w (NewPost (.agg (ints .u32 (schedI B)).toArray) w) := by
  have hWL : (wordsI B).length = 16 := by simp [wordsI]
  have HWL := Lib.hid hWL
  clear hWL
  go_enter Tryd.func72, Tryd.ntmps72
  go_wp2
  go_loopw [4] (fun i wr => ∃ k : Nat, k ≤ 16 ∧ i = .int .i64 (k : Int) ∧ Hid (Blk wr (w.heap.size + 1 + 1) 92 (ints .u32 (padI ((wordsI B).take k))).toArray) ∧ Hid (Blk wr w.heap.size 74 (nums .u8 B).toArray) ∧ Hid (Blk wr (w.heap.size + 1) 92 (ints .u32 zero64).toArray) ∧ New w wr) (fun i _ => 16 - (intOf i).toNat)
  case atStart =>
    refine ⟨0, by omega, rfl, Lib.hid ?_, Lib.hid ?_, Lib.hid ?_, ?_⟩
    · have h := Blk.new ((w.alloc (.cells (nums .u8 B).toArray 74)).alloc (.cells (ints .u32 zero64).toArray 92)) 92 (ints .u32 zero64).toArray
      simp only [World.alloc, Array.size_push] at h
      exact h
    · exact ((Blk.new w _ _).alloc _).alloc _
    · have h := (Blk.new (w.alloc (.cells (nums .u8 B).toArray 74)) 92 (ints .u32 zero64).toArray).alloc (.cells (ints .u32 zero64).toArray 92)
      simp only [World.alloc, Array.size_push] at h
      exact h
    · exact (((Below.refl _ _).alloc (Nat.le_refl _) _).alloc (by simp) _).alloc (by simp; omega) _
  case round =>
    obtain ⟨k, hk, rfl, T, P, Z, b⟩ := hrel
    by_cases hlt : k < 16
    · have hst := wordsI_take (B := B) hlt
      rw [← horN_four] at hst
      have htk : ((wordsI B).take k).length = k := by rw [List.length_take, HWL.out]; omega
      have hset := padI_set (l := (wordsI B).take k) (by omega) ((horN B k 4 : Nat) : Int)
      rw [← hst, htk] at hset
      have hzero := padI_zero (l := (wordsI B).take k) (by omega)
      rw [htk] at hzero
      have HSET := Lib.hid hset
      have HT := Lib.hid (padI_len (l := (wordsI B).take k) (by omega))
      have T0 : Hid (Blk wr (w.heap.size + 1 + 1) 92 (ints .u32 ((padI ((wordsI B).take k)).set k ((horN B k 0 : Nat) : Int))).toArray) := Lib.hid (by show Blk wr _ _ (ints .u32 ((padI ((wordsI B).take k)).set k 0)).toArray; rw [hzero]; exact T.out)
      have hk64 : (k : Int) < 64 := by omega
      have d16 : decide ((k : Int) < 16) = true := by simp; omega
      clear hst htk hset hzero
      go_wp2
      go_loopw [5] (fun i wr => ∃ m : Nat, m ≤ 4 ∧ i = .int .i64 (m : Int) ∧ Hid (Blk wr (w.heap.size + 1 + 1) 92 (ints .u32 ((padI ((wordsI B).take k)).set k ((horN B k m : Nat) : Int))).toArray) ∧ Hid (Blk wr w.heap.size 74 (nums .u8 B).toArray) ∧ Hid (Blk wr (w.heap.size + 1) 92 (ints .u32 zero64).toArray) ∧ New w wr) (fun i _ => 4 - (intOf i).toNat)
      case atStart => exact ⟨0, by omega, rfl, T0, P, Z, b⟩
      case round =>
        clear T P Z b T0
        obtain ⟨m, hm, rfl, T, P, Z, b⟩ := hrel
        by_cases hlm : m < 4
        · obtain ⟨a, ha⟩ : ∃ a, a = 4 * k := ⟨_, rfl⟩
          obtain ⟨am, ham⟩ : ∃ a, a = 4 * k + m := ⟨_, rfl⟩
          have i0 : IntKind.i64.wrap (4 * (k : Int)) = (a : Int) := by rw [IntKind.wrap_i64]; omega
          have i1 : IntKind.i64.wrap ((a : Int) + (m : Int)) = (am : Int) := by rw [IntKind.wrap_i64]; omega
          have j1 : (am : Int) < 64 := by omega
          have hstep := horN_step (B := B) (k := k) h8 hlm
          rw [← ham] at hstep
          have F := Lib.hid (fun (W : World) (hN : New wr W) => show W.cell? ⟨w.heap.size, am, none⟩ = some (.int .u8 ((B.getD am 0 : Nat) : Int)) ∧ W.cell? ⟨w.heap.size + 1 + 1, k, none⟩ = some (.int .u32 ((horN B k m : Nat) : Int)) by
            have P2 := P.out.below hN P.out.lt
            have T2 := T.out.below hN T.out.lt
            have c1 := blk_cell (i := k) T2 (by rw [List.length_set, HT.out]; omega)
            rw [show ((padI ((wordsI B).take k)).set k ((horN B k m : Nat) : Int)).getD k 0 = ((horN B k m : Nat) : Int) by rw [List.getD_eq_getElem?_getD, List.getElem?_set_self (by rw [HT.out]; omega)]; rfl] at c1
            exact ⟨blk_cellN P2 (by omega), c1⟩)
          generalize B.getD am 0 = x at *
          have HSTEP := Lib.hid hstep
          generalize hh : horN B k m = h at *
          have HH := Lib.hid hh
          clear ha ham hstep hh
          go_wp2
          refine wp_region_upT New 14 [(1, 0), (1, 1), (1, 2), (0, 3), (1, 4), (1, 5), (1, 6), (1, 7), (1, 8), (1, 9), (0, 10), (1, 11), (1, 12), (1, 13), (2, 14)]
            New.refl New.trans (by kernel_rfl) (by kernel_rfl) (by kernel_rfl) (by kernel_rfl) ?_
          obtain ⟨V, hV⟩ : ∃ V, V = wr.drew := ⟨_, rfl⟩
          have hN2 : New wr V := by rw [hV]; exact New.drew _
          have HTD : Hid (Blk V (w.heap.size + 1 + 1) 92 (ints .u32 ((padI ((wordsI B).take k)).set k (h : Int))).toArray) := Lib.hid (by rw [hV]; exact T.out)
          have HPD : Hid (Blk V w.heap.size 74 (nums .u8 B).toArray) := Lib.hid (by rw [hV]; exact P.out)
          have HZD : Hid (Blk V (w.heap.size + 1) 92 (ints .u32 zero64).toArray) := Lib.hid (by rw [hV]; exact Z.out)
          rw [← hV]
          clear hV
          repeat (first
            | (refine upT_pure rfl rfl (v := ?_) (fun W => ?_) ?_; rotate_left; (go_simp <;> with_reducible rfl); simp only [Act.put, List.setIfInBounds_toArray, List.set_cons_zero, List.set_cons_succ])
            | (refine upT_quiet rfl rfl (v := ?_) (fun W hW => ?_) ?_; rotate_left; (obtain ⟨y0, y1⟩ := F.out W (New.trans hN2 hW); go_simp <;> with_reducible rfl); simp only [Act.put, List.setIfInBounds_toArray, List.set_cons_zero, List.set_cons_succ]))
          rw [HSTEP.out]
          have z0 := (F.out V hN2).2
          have f0 := HTD.out.frozen k
          have hF : Far (w.heap.size + 1 + 1) V (V.setCell ⟨w.heap.size + 1 + 1, k, none⟩ (.int .u32 ((horN B k (m + 1) : Nat) : Int))) := far_set _ _
          have t3 := blk_setI HTD.out (i := k) ((horN B k (m + 1) : Nat) : Int)
          rw [List.set_set] at t3
          have T3 := Lib.hid t3
          have P3 := Lib.hid (HPD.out.grown hF (by simp; omega))
          have Z3 := Lib.hid (HZD.out.grown hF (by simp))
          have b3 := New.far (New.trans b hN2) hF (by omega)
          clear t3
          refine upT_call rfl rfl (fun K hK => ?_)
          go_simp
          refine hK _ _ (.inr (.inl rfl)) ?_
          clear hK z0 f0 hF
          refine upT_nil ?_
          clear F HSTEP HTD HPD HZD i0 i1 j1
          go_wp2
          go_roundw
          case rel => exact ⟨m + 1, by omega, by go_num, T3, P3, Z3, b3⟩
          case measure => simp [intOf]; omega
        · have hm4 : m = 4 := by omega
          have hT := T.out
          rw [hm4, HSET.out] at hT
          have T4 := Lib.hid hT
          clear hT T HSET hm4
          go_wp2
          go_roundw
          case rel => exact ⟨k + 1, by omega, by go_num, T4, P, Z, b⟩
          case measure => simp [intOf]; omega
    · have hT := T.out
      rw [List.take_of_length_le (by rw [HWL.out]; omega)] at hT
      have HT0 : Hid (Blk wr (w.heap.size + 1 + 1) 92 (ints .u32 (padI (schedN B 0))).toArray) := Lib.hid hT
      clear hT T
      go_wp2
      go_loopw [6] (fun i wr => ∃ t j : Nat, Hid (t = 16 + j) ∧ 16 ≤ t ∧ t ≤ 64 ∧ i = .int .i64 (t : Int) ∧ Hid (Blk wr (w.heap.size + 1 + 1) 92 (ints .u32 (padI (schedN B j))).toArray) ∧ Hid (Blk wr (w.heap.size + 1) 92 (ints .u32 zero64).toArray) ∧ New w wr) (fun i _ => 64 - (intOf i).toNat)
      case atStart => exact ⟨16, 0, Lib.hid rfl, by omega, by omega, rfl, HT0, Z, b⟩
      case round =>
        clear P Z b HT0
        obtain ⟨t, j, HTJ, ht1, ht2, rfl, T, Z, b⟩ := hrel
        by_cases hlt : t < 64
        · obtain ⟨b15, hb15⟩ : ∃ a, a = t - 15 := ⟨_, rfl⟩
          obtain ⟨b2, hb2⟩ : ∃ a, a = t - 2 := ⟨_, rfl⟩
          obtain ⟨b16, hb16⟩ : ∃ a, a = t - 16 := ⟨_, rfl⟩
          obtain ⟨b7, hb7⟩ : ∃ a, a = t - 7 := ⟨_, rfl⟩
          have i15 : IntKind.i64.wrap ((t : Int) - 15) = (b15 : Int) := by rw [IntKind.wrap_i64]; omega
          have i2 : IntKind.i64.wrap ((t : Int) - 2) = (b2 : Int) := by rw [IntKind.wrap_i64]; omega
          have i16 : IntKind.i64.wrap ((t : Int) - 16) = (b16 : Int) := by rw [IntKind.wrap_i64]; omega
          have i7 : IntKind.i64.wrap ((t : Int) - 7) = (b7 : Int) := by rw [IntKind.wrap_i64]; omega
          have j15 : (b15 : Int) < 64 := by omega
          have j2 : (b2 : Int) < 64 := by omega
          have j16 : (b16 : Int) < 64 := by omega
          have j7 : (b7 : Int) < 64 := by omega
          have jt : (t : Int) < 64 := by omega
          have hlen : (schedN B j).length = t := by rw [schedN_len, HTJ.out]
          have hplen : (padI (schedN B j)).length = 64 := padI_len (by omega)
          have hset := padI_set (l := schedN B j) (by omega) (nextW (schedN B j))
          rw [hlen, show schedN B j ++ [nextW (schedN B j)] = schedN B (j + 1) from rfl] at hset
          have hnext : nextW (schedN B j) = IntKind.u32.wrap (IntKind.u32.wrap (IntKind.u32.wrap ((schedN B j).getD b16 0 + bits .xor .u32 (bits .xor .u32 (rot ((schedN B j).getD b15 0) 7) (rot ((schedN B j).getD b15 0) 18)) ((schedN B j).getD b15 0 / 8)) + (schedN B j).getD b7 0)
            + bits .xor .u32 (bits .xor .u32 (rot ((schedN B j).getD b2 0) 17) (rot ((schedN B j).getD b2 0) 19)) ((schedN B j).getD b2 0 / 1024)) := by
            unfold nextW
            rw [hlen, ← hb15, ← hb2, ← hb16, ← hb7]
          have F := Lib.hid (fun (W : World) (hW : Far (w.heap.size + 1 + 1) wr W) (hN : New wr W) => show W.cell? ⟨w.heap.size + 1 + 1, b15, none⟩ = some (.int .u32 ((schedN B j).getD b15 0)) ∧ W.cell? ⟨w.heap.size + 1 + 1, b2, none⟩ = some (.int .u32 ((schedN B j).getD b2 0)) ∧ W.cell? ⟨w.heap.size + 1 + 1, b16, none⟩ = some (.int .u32 ((schedN B j).getD b16 0)) ∧ W.cell? ⟨w.heap.size + 1 + 1, b7, none⟩ = some (.int .u32 ((schedN B j).getD b7 0)) by
            have T2 := T.out.below hN T.out.lt
            have c15 := blk_cell (i := b15) T2 (by omega)
            have c2 := blk_cell (i := b2) T2 (by omega)
            have c16 := blk_cell (i := b16) T2 (by omega)
            have c7 := blk_cell (i := b7) T2 (by omega)
            rw [padI_get (by omega)] at c15 c2 c16 c7
            exact ⟨c15, c2, c16, c7⟩)
          generalize nextW (schedN B j) = nx at *
          generalize (schedN B j).getD b15 0 = x at *
          generalize (schedN B j).getD b2 0 = y at *
          generalize (schedN B j).getD b16 0 = v at *
          generalize (schedN B j).getD b7 0 = u at *
          have T7 := Lib.hid (fun W : World => show Calls Tryd.prog 73 #[.int .u32 x, .int .u64 7] W (ValPost (.int .u32 (rot x 7)) W) from right_any x 7 (by omega))
          have T18 := Lib.hid (fun W : World => show Calls Tryd.prog 73 #[.int .u32 x, .int .u64 18] W (ValPost (.int .u32 (rot x 18)) W) from right_any x 18 (by omega))
          have T17 := Lib.hid (fun W : World => show Calls Tryd.prog 73 #[.int .u32 y, .int .u64 17] W (ValPost (.int .u32 (rot y 17)) W) from right_any y 17 (by omega))
          have T19 := Lib.hid (fun W : World => show Calls Tryd.prog 73 #[.int .u32 y, .int .u64 19] W (ValPost (.int .u32 (rot y 19)) W) from right_any y 19 (by omega))
          have HSET := Lib.hid hset
          have HNEXT := Lib.hid hnext
          have HLEN := Lib.hid hplen
          clear hset hnext hplen hlen hb15 hb2 hb16 hb7
          generalize rot x 7 = r7 at *
          generalize rot x 18 = r18 at *
          generalize rot y 17 = r17 at *
          generalize rot y 19 = r19 at *
          obtain ⟨y0, y1, y2, y3⟩ := F.out wr (Far.refl _ _) (New.refl _)
          go_wp2_with fail
          (with_reducible refine (T7.out _).mono ?_)
          rintro e w2 ⟨rfl, rfl⟩
          go_wp2_with fail
          (with_reducible refine (T18.out _).mono ?_)
          rintro e w2 ⟨rfl, rfl⟩
          go_wp2_with fail
          (with_reducible refine (T17.out _).mono ?_)
          rintro e w2 ⟨rfl, rfl⟩
          go_wp2_with fail
          (with_reducible refine (T19.out _).mono ?_)
          rintro e w2 ⟨rfl, rfl⟩
          clear y0 y1 y2 y3
          go_wp2_with fail
          refine wp_region_upT New 15 [(1, 0), (1, 1), (1, 2), (1, 3), (0, 4), (1, 5), (1, 6), (1, 7), (1, 8), (1, 9), (0, 10), (1, 11), (1, 12), (1, 13), (1, 14), (2, 15)]
            New.refl New.trans (by kernel_rfl) (by kernel_rfl) (by kernel_rfl) (by kernel_rfl) ?_
          obtain ⟨V, hV⟩ : ∃ V, V = wr.drew := ⟨_, rfl⟩
          have hN2 : New wr V := by rw [hV]; exact New.drew _
          have TD : Blk V (w.heap.size + 1 + 1) 92 (ints .u32 (padI (schedN B j))).toArray := by rw [hV]; exact T.out
          have ZD : Blk V (w.heap.size + 1) 92 (ints .u32 zero64).toArray := by rw [hV]; exact Z.out
          rw [← hV]
          have HTD := Lib.hid TD
          have HZD := Lib.hid ZD
          clear hV TD ZD
          repeat (first
            | (refine upT_pure rfl rfl (v := ?_) (fun W => ?_) ?_; rotate_left; (go_simp <;> with_reducible rfl); simp only [Act.put, List.setIfInBounds_toArray, List.set_cons_zero, List.set_cons_succ])
            | (refine upT_quiet rfl rfl (v := ?_) (fun W hW => ?_) ?_; rotate_left; (obtain ⟨y0, y1, y2, y3⟩ := F.out W (Far.of_new (New.trans hN2 hW)) (New.trans hN2 hW); go_simp <;> with_reducible rfl); simp only [Act.put, List.setIfInBounds_toArray, List.set_cons_zero, List.set_cons_succ]))
          rw [← HNEXT.out]
          have z0 := blk_cell (i := t) HTD.out (by rw [HLEN.out]; omega)
          have f0 := HTD.out.frozen t
          have hF : Far (w.heap.size + 1 + 1) V (V.setCell ⟨w.heap.size + 1 + 1, t, none⟩ (.int .u32 nx)) := far_set _ _
          have T3 := Lib.hid (blk_setI HTD.out (i := t) nx)
          rw [HSET.out] at T3
          have Z3 := Lib.hid (HZD.out.grown hF (by simp))
          have b3 := New.far (New.trans b hN2) hF (by omega)
          refine upT_call rfl rfl (fun K hK => ?_)
          go_simp
          refine hK _ _ (.inr (.inl rfl)) ?_
          clear hK z0 f0 hF
          refine upT_nil ?_
          have HTJ2 := Lib.hid (show t + 1 = 16 + (j + 1) by rw [HTJ.out]; omega)
          clear F HSET HNEXT HLEN HTD HZD i15 i2 i16 i7 j15 j2 j16 j7 jt T7 T17 T18 T19
          go_wp2
          go_roundw
          case rel => exact ⟨t + 1, j + 1, HTJ2, by omega, by omega, by go_num, T3, Z3, b3⟩
          case measure => simp [intOf]; omega
        · obtain rfl : t = 64 := by omega
          have hj : j = 48 := by have := HTJ.out; omega
          subst hj
          have hlen : (schedN B 48).length = 64 := by rw [schedN_len]
          have hT := T.out
          rw [padI_full hlen] at hT
          have hsz : (ints .u32 (schedN B 48)).toArray.size = 64 := by simp [ints, hlen]
          have hz : (ints .u32 zero64).toArray.size = 64 := by simp [ints, zero64]
          have i1 : (Tryd.prog.info? 92).map (·.size) = some (ints .u32 (schedN B 48)).toArray.size := by rw [hsz]; kernel_rfl
          have G1 := row_of_blk hT
          have G2 := row_of_blk Z.out
          have hR := blk_setRow Z.out (ints .u32 (schedN B 48)).toArray
          have hF := far_setRow (g := w.heap.size + 1) wr (ints .u32 (schedN B 48)).toArray
          have bE := New.far b hF (by omega)
          have H := Lib.hid (And.intro hsz (And.intro hz (And.intro i1 (And.intro G1 (And.intro G2 (And.intro hR bE))))))
          have hS : schedN B 48 = schedI B := rfl
          rw [hS] at H
          have hone := ints_one .u32 (schedI B)
          have HONE := Lib.hid hone
          generalize (ints .u32 (schedI B)).toArray = cs at *
          clear hT hsz hz i1 G1 G2 hR hF bE hS hone T Z hlen
          go_wp2_with (first
            | (refine wpList_load_row rfl 92 (.tmp 3) rfl (w.heap.size + 1 + 1) rfl _ cs _ _ H.out.2.2.2.1 (show Tryd.prog.underlying 92 = some (.array 64 70) by kernel_rfl) rfl H.out.2.2.1 ?_)
            | (refine wpList_store_row rfl 92 (.tmp 2) (.tmp 76) rfl (w.heap.size + 1) cs rfl rfl _ _ H.out.2.2.2.2.1 H.out.2.2.1 (by rw [H.out.1, H.out.2.1]) HONE.out ?_))
          exact bodyPost_ret (results_cell_row rfl _ _ (w.heap.size + 1) _ cs (0, 0) _ rfl H.out.2.2.2.2.2.1 (show Tryd.prog.underlying 92 = some (.array 64 70) by kernel_rfl) rfl H.out.2.2.1) rfl ⟨rfl, H.out.2.2.2.2.2.2⟩

end Go.Proofs.YtgfemjpeegbhhaaDoor
/- Contracts on Compress. -/

namespace Go.Hm
open Go Go.RowKit
theorem cells8 {w : World} {g : Nat} {ty : TypeId} {s : S8} (h : Blk w g ty (cellsS s)) : w.cell? ⟨g, 0, none⟩ = some (.int .u32 s.1) ∧ w.cell? ⟨g, 1, none⟩ = some (.int .u32 s.2.1) ∧ w.cell? ⟨g, 2, none⟩ = some (.int .u32 s.2.2.1) ∧ w.cell? ⟨g, 3, none⟩ = some (.int .u32 s.2.2.2.1) ∧ w.cell? ⟨g, 4, none⟩ = some (.int .u32 s.2.2.2.2.1) ∧ w.cell? ⟨g, 5, none⟩ = some (.int .u32 s.2.2.2.2.2.1) ∧ w.cell? ⟨g, 6, none⟩ = some (.int .u32 s.2.2.2.2.2.2.1) ∧ w.cell? ⟨g, 7, none⟩ = some (.int .u32 s.2.2.2.2.2.2.2) := by
  have e : ∀ i, w.cell? ⟨g, i, none⟩ = (cellsS s)[i]? := h.cell
  exact ⟨e 0, e 1, e 2, e 3, e 4, e 5, e 6, e 7⟩
/-- The program's table of constants lies in the world. -/
def ConstIn (w : World) : Prop := 0 < w.heap.size ∧ ∀ i, i < 64 → w.cell? ⟨0, i, none⟩ = some (.int .u32 (kI.getD i 0))
theorem cellsS_one (s : S8) : (cellsS s).all (·.oneCell') = true := by simp [cellsS, Value.oneCell']
theorem alloc_setRow (w : World) (t : TypeId) (old cs : Array Value) : (w.alloc (.cells old t)).setRow w.heap.size cs = w.alloc (.cells cs t) := by
  unfold World.alloc World.setRow
  congr 1
  apply Array.ext_getElem?
  intro i
  simp only [Array.getElem?_modify, Array.getElem?_push]
  by_cases h : i = w.heap.size
  · subst h; simp
  · simp [h]; intro h2; exact absurd h2.symm h
theorem ConstIn.new {w w' : World} (h : ConstIn w) (hb : New w w') : ConstIn w' := ⟨Nat.lt_of_lt_of_le h.1 hb.size, fun i hi => (hb.cell h.1).trans (h.2 i hi)⟩

end Go.Hm

namespace Go.Proofs.YtgfemjpeegbhhaaDoor
open Go.RowKit Go.Hm
set_option maxHeartbeats 600000 in
set_option maxRecDepth 100000 in
theorem compress_any {w : World} (s : S8) (hs : OkS s) (B : List Nat) (hB : B.length = 64) (h8 : ∀ x ∈ B, x < 256) (hC : ConstIn w) :
    Calls Tryd.prog 44 #[.agg (cellsS s), .agg (nums .u8 B).toArray] w (NewPost (.agg (cellsS (compS s B))) w) := by
  obtain ⟨W0, hW0⟩ : ∃ W, W = ((w.alloc (.cells (cellsS s) 71)).alloc (.cells (nums .u8 B).toArray 74)).alloc (.cells (cellsS (0, 0, 0, 0, 0, 0, 0, 0)) 71) := ⟨_, rfl⟩
  have e1 : (w.alloc (.cells (cellsS s) 71)).heap.size = w.heap.size + 1 := by simp
  have e2 : ((w.alloc (.cells (cellsS s) 71)).alloc (.cells (nums .u8 B).toArray 74)).heap.size = w.heap.size + 1 + 1 := by simp
  have b0 : New w W0 := by rw [hW0]; exact (((Below.refl _ _).alloc (Nat.le_refl _) _).alloc (by simp) _).alloc (by simp; omega) _
  have A0 : Blk W0 w.heap.size 71 (cellsS s) := by rw [hW0]; exact ((Blk.new _ _ _).alloc _).alloc _
  have P0 : Blk W0 (w.heap.size + 1) 74 (nums .u8 B).toArray := by rw [hW0, ← e1]; exact (Blk.new _ _ _).alloc _
  have R0 : Blk W0 (w.heap.size + 1 + 1) 71 (cellsS (0, 0, 0, 0, 0, 0, 0, 0)) := by rw [hW0, ← e2]; exact Blk.new _ _ _
  have hsz : (nums .u8 B).toArray.size = 64 := by simp [nums, hB]
  have hi1 : (Tryd.prog.info? 74).map (·.size) = some (nums .u8 B).toArray.size := by rw [hsz]; kernel_rfl
  have L1 := Lib.hid (And.intro (row_of_blk P0) hi1)
  have SC := Lib.hid (fun W : World => sched_any (w := W) B hB h8)
  have HW := Lib.hid (show W0 = ((w.alloc (.cells #[.int .u32 s.1, .int .u32 s.2.1, .int .u32 s.2.2.1, .int .u32 s.2.2.2.1, .int .u32 s.2.2.2.2.1, .int .u32 s.2.2.2.2.2.1, .int .u32 s.2.2.2.2.2.2.1, .int .u32 s.2.2.2.2.2.2.2] 71)).alloc (.cells (nums .u8 B).toArray 74)).alloc (.cells #[.int .u32 0, .int .u32 0, .int .u32 0, .int .u32 0, .int .u32 0, .int .u32 0, .int .u32 0, .int .u32 0] 71) from hW0)
  have HA := Lib.hid A0
  have HP := Lib.hid P0
  have HR := Lib.hid R0
  have HB := Lib.hid b0
  have HK := Lib.hid (hC.new b0)
  clear hW0 e1 e2 A0 P0 R0 b0 hi1 hsz
  have HS := Lib.hid hs
  have h0 := L1.out
  rw [HW.out] at h0
  have L0 := Lib.hid h0
  have hcs : (ints .u32 (schedI B)).toArray.size = 64 := by simp [ints, schedI_len]
  have hi2 : (Tryd.prog.info? 92).map (·.size) = some (ints .u32 (schedI B)).toArray.size := by rw [hcs]; kernel_rfl
  have CS := Lib.hid (And.intro hcs (And.intro hi2 (ints_one .u32 (schedI B))))
  have SU := Lib.hid (schedI_U B h8)
  have SL := Lib.hid (schedI_len B)
  rw [show (.agg (cellsS s) : Value) = .agg #[.int .u32 s.1, .int .u32 s.2.1, .int .u32 s.2.2.1, .int .u32 s.2.2.2.1, .int .u32 s.2.2.2.2.1, .int .u32 s.2.2.2.2.2.1, .int .u32 s.2.2.2.2.2.2.1, .int .u32 s.2.2.2.2.2.2.2] from rfl]
  clear L1 h0 hcs hi2 hB h8 hC hs
  go_enter Tryd.func44, Tryd.ntmps44
  go_wp2_with (refine wpList_load_row rfl 74 (.tmp 3) rfl (w.heap.size + 1) rfl _ (nums .u8 B).toArray _ _ L0.out.1 (show Tryd.prog.underlying 74 = some (.array 64 5) by kernel_rfl) rfl L0.out.2 ?_)
  rw [← HW.out]
  refine (SC.out _).mono ?_
  rintro e w1 ⟨rfl, b1⟩
  clear SC HW L0 HP
  go_wp2_with (refine wpList_store_row rfl 92 (.tmp 5) (.tmp 18) rfl w1.heap.size (ints .u32 (schedI B)).toArray rfl rfl _ _ (heap_alloc_new _ _) CS.out.2.1 (by rw [CS.out.1]; rfl) CS.out.2.2 ?_; rw [alloc_setRow])
  obtain ⟨W2, hW2⟩ : ∃ W, W = w1.alloc (.cells (ints .u32 (schedI B)).toArray 92) := ⟨_, rfl⟩
  have b2 : New W0 W2 := by rw [hW2]; exact New.trans b1 ((Below.refl _ _).alloc (Nat.le_refl _) _)
  have C2 : Blk W2 w1.heap.size 92 (ints .u32 (schedI B)).toArray := by rw [hW2]; exact Blk.new _ _ _
  rw [← hW2]
  have F := Lib.hid (fun (W : World) (hW : New W2 W) => cells8 (HA.out.below (New.trans b2 hW) HA.out.lt))
  have FK := Lib.hid (fun (t : Nat) (ht : t < 64) (W : World) (hW : New W2 W) => And.intro ((HK.out.new (New.trans b2 hW)).2 t ht) (blk_cell (i := t) (C2.below hW C2.lt) (by rw [SL.out]; exact ht)))
  have HR2 := Lib.hid (HR.out.below b2 HR.out.lt)
  have HB2 := Lib.hid (New.trans HB.out b2)
  have hg5 : w.heap.size + 1 + 1 < W2.heap.size := HR2.out.lt
  generalize hgc : w1.heap.size = gc at *
  clear hgc hW2 b1 b2 C2 HA HR HB HK hg5 CS
  refine wp_region_up New [(true, 0), (true, 1), (true, 2), (true, 3), (true, 4), (true, 5), (true, 6), (true, 7), (true, 8), (true, 9), (true, 10), (true, 11), (true, 12), (true, 13), (true, 14), (true, 15), (true, 16), (true, 17), (true, 18), (true, 19), (true, 20), (true, 21), (true, 22), (true, 23)]
    New.refl New.trans (by kernel_rfl) (by kernel_rfl) (by kernel_rfl) (by kernel_rfl) ?_
  iterate 24 (
        refine up_quiet rfl rfl (v := ?_) (fun W hW => ?_) ?_
        rotate_left
        · obtain ⟨x0, x1, x2, x3, x4, x5, x6, x7⟩ := F.out W (New.trans (New.drew W2) hW)
          go_simp <;> with_reducible rfl
        simp only [Act.put, List.setIfInBounds_toArray, List.set_cons_zero, List.set_cons_succ])
  refine up_nil ?_
  go_wp2
  go_loopw [6, 7, 8, 9, 10, 11, 12, 13, 35] (fun a b c d e f g i k wr => ∃ t : Nat, t ≤ 64 ∧ k = .int .i64 (t : Int) ∧ a = .int .u32 (roundS (schedI B) s t).1 ∧ b = .int .u32 (roundS (schedI B) s t).2.1 ∧ c = .int .u32 (roundS (schedI B) s t).2.2.1 ∧ d = .int .u32 (roundS (schedI B) s t).2.2.2.1 ∧ e = .int .u32 (roundS (schedI B) s t).2.2.2.2.1 ∧ f = .int .u32 (roundS (schedI B) s t).2.2.2.2.2.1 ∧ g = .int .u32 (roundS (schedI B) s t).2.2.2.2.2.2.1 ∧ i = .int .u32 (roundS (schedI B) s t).2.2.2.2.2.2.2 ∧ New W2 wr) (fun _ _ _ _ _ _ _ _ k _ => 64 - (intOf k).toNat)
  case atStart => exact ⟨0, by omega, rfl, rfl, rfl, rfl, rfl, rfl, rfl, rfl, rfl, New.drew W2⟩
  case round =>
    obtain ⟨t, ht, rfl, rfl, rfl, rfl, rfl, rfl, rfl, rfl, rfl, b⟩ := hrel
    by_cases hlt : t < 64
    · have hok := roundS_ok (W := schedI B) HS.out t
      have hst : roundS (schedI B) s (t + 1) = stepS (kI.getD t 0) ((schedI B).getD t 0) (roundS (schedI B) s t) := rfl
      have F2 := Lib.hid (FK.out t hlt)
      have HST := Lib.hid hst
      generalize hr : roundS (schedI B) s t = r at *
      have HRR := Lib.hid hr
      generalize kI.getD t 0 = kt at *
      generalize (schedI B).getD t 0 = wt at *
      obtain ⟨a, b', c, d, e, f, g, i⟩ := r
      obtain ⟨ua, ub, uc, ud, ue, uf, ug, ui⟩ := hok
      simp only at ua ue HST ⊢
      have Te6 := Lib.hid (fun W : World => show Calls Tryd.prog 66 #[.int .u32 e, .int .i64 6] W (NewPost (.int .u32 (rot e 6)) W) from (turn_any e 6 ue (by omega)).mono fun _ _ h => h.new)
      have Te11 := Lib.hid (fun W : World => show Calls Tryd.prog 66 #[.int .u32 e, .int .i64 11] W (NewPost (.int .u32 (rot e 11)) W) from (turn_any e 11 ue (by omega)).mono fun _ _ h => h.new)
      have Te25 := Lib.hid (fun W : World => show Calls Tryd.prog 66 #[.int .u32 e, .int .i64 25] W (NewPost (.int .u32 (rot e 25)) W) from (turn_any e 25 ue (by omega)).mono fun _ _ h => h.new)
      have Ta2 := Lib.hid (fun W : World => show Calls Tryd.prog 66 #[.int .u32 a, .int .i64 2] W (NewPost (.int .u32 (rot a 2)) W) from (turn_any a 2 ua (by omega)).mono fun _ _ h => h.new)
      have Ta13 := Lib.hid (fun W : World => show Calls Tryd.prog 66 #[.int .u32 a, .int .i64 13] W (NewPost (.int .u32 (rot a 13)) W) from (turn_any a 13 ua (by omega)).mono fun _ _ h => h.new)
      have Ta22 := Lib.hid (fun W : World => show Calls Tryd.prog 66 #[.int .u32 a, .int .i64 22] W (NewPost (.int .u32 (rot a 22)) W) from (turn_any a 22 ua (by omega)).mono fun _ _ h => h.new)
      have jt : (t : Int) < 64 := by omega
      clear ua ub uc ud ue uf ug ui hst hr HRR
      have hpI : pI e f g i kt wt = IntKind.u32.wrap (IntKind.u32.wrap (IntKind.u32.wrap (IntKind.u32.wrap (i + bits .xor .u32 (bits .xor .u32 (rot e 6) (rot e 11)) (rot e 25)) + bits .xor .u32 (bits .and .u32 e f) (bits .and .u32 (bits .xor .u32 (if IntKind.u32.signed = true then -1 else IntKind.u32.max) e) g)) + kt) + wt) := rfl
      have hqI : qI a b' c = (bits .xor .u32 (bits .xor .u32 (rot a 2) (rot a 13)) (rot a 22) + bits .xor .u32 (bits .xor .u32 (bits .and .u32 a b') (bits .and .u32 a c)) (bits .and .u32 b' c)) % 4294967296 := rfl
      generalize rot e 6 = r6 at *
      generalize rot e 11 = r11 at *
      generalize rot e 25 = r25 at *
      generalize rot a 2 = r2 at *
      generalize rot a 13 = r13 at *
      generalize rot a 22 = r22 at *
      obtain ⟨x1, q1⟩ : ∃ x, bits .xor .u32 r6 r11 = x := ⟨_, rfl⟩
      obtain ⟨x2, q2⟩ : ∃ x, bits .xor .u32 x1 r25 = x := ⟨_, rfl⟩
      obtain ⟨x3, q3⟩ : ∃ x, IntKind.u32.wrap (i + x2) = x := ⟨_, rfl⟩
      obtain ⟨y1, q4⟩ : ∃ x, bits .and .u32 e f = x := ⟨_, rfl⟩
      obtain ⟨y2, q5⟩ : ∃ x, bits .xor .u32 (if IntKind.u32.signed = true then -1 else IntKind.u32.max) e = x := ⟨_, rfl⟩
      obtain ⟨y3, q6⟩ : ∃ x, bits .and .u32 y2 g = x := ⟨_, rfl⟩
      obtain ⟨y4, q7⟩ : ∃ x, bits .xor .u32 y1 y3 = x := ⟨_, rfl⟩
      obtain ⟨x4, q8⟩ : ∃ x, IntKind.u32.wrap (x3 + y4) = x := ⟨_, rfl⟩
      obtain ⟨x5, q9⟩ : ∃ x, IntKind.u32.wrap (x4 + kt) = x := ⟨_, rfl⟩
      obtain ⟨p, q10⟩ : ∃ x, IntKind.u32.wrap (x5 + wt) = x := ⟨_, rfl⟩
      rw [q1, q2, q3, q4, q5, q6, q7, q8, q9, q10] at hpI
      obtain ⟨z1, v1⟩ : ∃ x, bits .xor .u32 r2 r13 = x := ⟨_, rfl⟩
      obtain ⟨z2, v2⟩ : ∃ x, bits .xor .u32 z1 r22 = x := ⟨_, rfl⟩
      obtain ⟨z3, v3⟩ : ∃ x, bits .and .u32 a b' = x := ⟨_, rfl⟩
      obtain ⟨z4, v4⟩ : ∃ x, bits .and .u32 a c = x := ⟨_, rfl⟩
      obtain ⟨z5, v5⟩ : ∃ x, bits .xor .u32 z3 z4 = x := ⟨_, rfl⟩
      obtain ⟨z6, v6⟩ : ∃ x, bits .and .u32 b' c = x := ⟨_, rfl⟩
      obtain ⟨z7, v7⟩ : ∃ x, bits .xor .u32 z5 z6 = x := ⟨_, rfl⟩
      rw [v1, v2, v3, v4, v5, v6, v7] at hqI
      have hst2 := HST.out
      rw [show stepS kt wt (a, b', c, d, e, f, g, i) = ((pI e f g i kt wt + qI a b' c) % 4294967296, a, b', c, (d + pI e f g i kt wt) % 4294967296, e, f, g) from rfl, hpI, hqI] at hst2
      have HST2 := Lib.hid hst2
      have QP := Lib.hid (And.intro q1 (And.intro q2 (And.intro q3 (And.intro q4 (And.intro q5 (And.intro q6 (And.intro q7 (And.intro q8 (And.intro q9 q10)))))))))
      have QV := Lib.hid (And.intro v1 (And.intro v2 (And.intro v3 (And.intro v4 (And.intro v5 (And.intro v6 v7))))))
      clear hst2 hpI hqI HST q1 q2 q3 q4 q5 q6 q7 q8 q9 q10 v1 v2 v3 v4 v5 v6 v7
      go_wp2_with fail
      refine wp_region_up New [(true, 0), (true, 1), (true, 3), (true, 6), (true, 10), (true, 11), (true, 12), (true, 13), (true, 14), (true, 15), (true, 16), (true, 17), (true, 19), (true, 20), (true, 21), (true, 23), (true, 24), (true, 25), (false, 2), (false, 4), (true, 5), (false, 7), (true, 8), (true, 9), (true, 18), (true, 22), (true, 26), (true, 27)]
        New.refl New.trans (by kernel_rfl) (by kernel_rfl) (by kernel_rfl) (by kernel_rfl) ?_
      have hU := New.trans b (New.drew wr)
      repeat (first
        | (refine up_quiet rfl rfl (v := ?_) (fun W hW => ?_) ?_; rotate_left; (obtain ⟨o0, o1⟩ := F2.out W (New.trans hU hW); obtain ⟨q1, q2, q3, q4, q5, q6, q7, q8, q9, q10⟩ := QP.out; go_simp <;> with_reducible rfl); simp only [Act.put, List.setIfInBounds_toArray, List.set_cons_zero, List.set_cons_succ])
        | (refine up_call rfl rfl (fun K hK => ?_); go_simp
           first
           | (with_reducible refine (Te6.out _).mono ?_)
           | (with_reducible refine (Te11.out _).mono ?_)
           | (with_reducible refine (Te25.out _).mono ?_)
           rintro e9 w9 ⟨rfl, c9⟩
           refine hK _ _ c9 ?_
           clear hK
           replace hU := New.trans hU c9))
      refine up_nil ?_
      go_wp2_with fail
      (with_reducible refine (Ta2.out _).mono ?_)
      rintro e9 w2 ⟨rfl, c2⟩
      replace hU := New.trans hU c2
      go_wp2_with fail
      (with_reducible refine (Ta13.out _).mono ?_)
      rintro e9 w3 ⟨rfl, c3⟩
      replace hU := New.trans hU c3
      obtain ⟨v1, v2, v3, v4, v5, v6, v7⟩ := QV.out
      go_wp2_with fail
      (with_reducible refine (Ta22.out _).mono ?_)
      rintro e9 w4 ⟨rfl, c4⟩
      replace hU := New.trans hU c4
      clear Te6 Te11 Te25 Ta2 Ta13 Ta22 F2 c2 c3 c4 QP QV
      go_wp2
      go_roundw
      case rel =>
        refine ⟨t + 1, by omega, by go_num, ?_⟩
        rw [HST2.out]
        exact ⟨rfl, rfl, rfl, rfl, rfl, rfl, rfl, rfl, hU⟩
      case measure => simp [intOf]; omega
    · have ht64 : t = 64 := by omega
      have HT := Lib.hid (show addS s (roundS (schedI B) s t) = compS s B by rw [ht64]; rfl)
      obtain ⟨x0, x1, x2, x3, x4, x5, x6, x7⟩ := F.out wr b
      have R3 := Lib.hid (HR2.out.below b HR2.out.lt)
      have bE := New.far (New.trans HB2.out b) (far_setRow (g := w.heap.size + 1 + 1) wr (cellsS (addS s (roundS (schedI B) s t)))) (by omega)
      have BE := Lib.hid bE
      generalize roundS (schedI B) s t = r at *
      have hsz : (Tryd.prog.info? 71).map (·.size) = some (cellsS (addS s r)).size := by rw [show (cellsS (addS s r)).size = 8 from rfl]; kernel_rfl
      have HSZ := Lib.hid hsz
      clear ht64 hsz bE FK F HS SU SL
      go_wp2_with (refine wpList_store_row rfl 71 (.tmp 4) (.tmp 130) rfl (w.heap.size + 1 + 1) (cellsS (addS s r)) rfl rfl _ _ (row_of_blk R3.out) HSZ.out rfl (cellsS_one _) ?_)
      exact bodyPost_ret (results_cell_row rfl _ _ (w.heap.size + 1 + 1) _ (cellsS (addS s r)) (0, 0) _ rfl (row_of_blk (blk_setRow R3.out _)) (show Tryd.prog.underlying 71 = some (.array 8 70) by kernel_rfl) rfl HSZ.out) rfl ⟨by rw [HT.out], BE.out⟩

end Go.Proofs.YtgfemjpeegbhhaaDoor
/- Contract on ref01.Compress. -/

namespace Go.Proofs.YtgfemjpeegbhhaaDoor
open Go.RowKit Go.Hm
set_option maxHeartbeats 600000 in
set_option maxRecDepth 100000 in
theorem rcompress_any {w : World} (s : S8) (hs : OkS s) (B : List Nat) (hB : B.length = 64) (h8 : ∀ x ∈ B, x < 256) :
    Calls Tryd.prog 71 #[.agg (cellsS s), .agg (nums .u8 B).toArray] w (NewPost (.agg (cellsS (compS s B))) w) := by
  obtain ⟨W0, hW0⟩ : ∃ W, W = (((w.alloc (.cells (cellsS s) 71)).alloc (.cells (nums .u8 B).toArray 74)).alloc (.cells (cellsS (0, 0, 0, 0, 0, 0, 0, 0)) 71)).alloc (.cells (ints .u32 kI).toArray 92) := ⟨_, rfl⟩
  have e1 : (w.alloc (.cells (cellsS s) 71)).heap.size = w.heap.size + 1 := by simp
  have e2 : ((w.alloc (.cells (cellsS s) 71)).alloc (.cells (nums .u8 B).toArray 74)).heap.size = w.heap.size + 1 + 1 := by simp
  have b0 : New w W0 := by rw [hW0]; exact ((((Below.refl _ _).alloc (Nat.le_refl _) _).alloc (by simp) _).alloc (by simp; omega) _).alloc (by simp; omega) _
  have A0 : Blk W0 w.heap.size 71 (cellsS s) := by rw [hW0]; exact (((Blk.new _ _ _).alloc _).alloc _).alloc _
  have P0 : Blk W0 (w.heap.size + 1) 74 (nums .u8 B).toArray := by rw [hW0, ← e1]; exact ((Blk.new _ _ _).alloc _).alloc _
  have R0 : Blk W0 (w.heap.size + 1 + 1) 71 (cellsS (0, 0, 0, 0, 0, 0, 0, 0)) := by rw [hW0, ← e2]; exact (Blk.new _ _ _).alloc _
  have e3 : (((w.alloc (.cells (cellsS s) 71)).alloc (.cells (nums .u8 B).toArray 74)).alloc (.cells (cellsS (0, 0, 0, 0, 0, 0, 0, 0)) 71)).heap.size = w.heap.size + 1 + 1 + 1 := by simp
  have K0 : Blk W0 (w.heap.size + 1 + 1 + 1) 92 (ints .u32 kI).toArray := by rw [hW0, ← e3]; exact Blk.new _ _ _
  have hsz : (nums .u8 B).toArray.size = 64 := by simp [nums, hB]
  have hi1 : (Tryd.prog.info? 74).map (·.size) = some (nums .u8 B).toArray.size := by rw [hsz]; kernel_rfl
  have L1 := Lib.hid (And.intro (row_of_blk P0) hi1)
  have SC := Lib.hid (fun W : World => words_any (w := W) B hB h8)
  obtain ⟨KC, hKC⟩ : ∃ K, K = (#[.int .u32 1116352408, .int .u32 1899447441, .int .u32 3049323471, .int .u32 3921009573, .int .u32 961987163, .int .u32 1508970993, .int .u32 2453635748, .int .u32 2870763221, .int .u32 3624381080, .int .u32 310598401, .int .u32 607225278, .int .u32 1426881987, .int .u32 1925078388, .int .u32 2162078206, .int .u32 2614888103, .int .u32 3248222580, .int .u32 3835390401, .int .u32 4022224774, .int .u32 264347078, .int .u32 604807628, .int .u32 770255983, .int .u32 1249150122, .int .u32 1555081692, .int .u32 1996064986, .int .u32 2554220882, .int .u32 2821834349, .int .u32 2952996808, .int .u32 3210313671, .int .u32 3336571891, .int .u32 3584528711, .int .u32 113926993, .int .u32 338241895, .int .u32 666307205, .int .u32 773529912, .int .u32 1294757372, .int .u32 1396182291, .int .u32 1695183700, .int .u32 1986661051, .int .u32 2177026350, .int .u32 2456956037, .int .u32 2730485921, .int .u32 2820302411, .int .u32 3259730800, .int .u32 3345764771, .int .u32 3516065817, .int .u32 3600352804, .int .u32 4094571909, .int .u32 275423344, .int .u32 430227734, .int .u32 506948616, .int .u32 659060556, .int .u32 883997877, .int .u32 958139571, .int .u32 1322822218, .int .u32 1537002063, .int .u32 1747873779, .int .u32 1955562222, .int .u32 2024104815, .int .u32 2227730452, .int .u32 2361852424, .int .u32 2428436474, .int .u32 2756734187, .int .u32 3204031479, .int .u32 3329325298] : Array Value) := ⟨_, rfl⟩
  have HKC := Lib.hid hKC
  have HW := Lib.hid (show W0 = (((w.alloc (.cells #[.int .u32 s.1, .int .u32 s.2.1, .int .u32 s.2.2.1, .int .u32 s.2.2.2.1, .int .u32 s.2.2.2.2.1, .int .u32 s.2.2.2.2.2.1, .int .u32 s.2.2.2.2.2.2.1, .int .u32 s.2.2.2.2.2.2.2] 71)).alloc (.cells (nums .u8 B).toArray 74)).alloc (.cells #[.int .u32 0, .int .u32 0, .int .u32 0, .int .u32 0, .int .u32 0, .int .u32 0, .int .u32 0, .int .u32 0] 71)).alloc (.cells KC 92) from (by rw [hKC]; exact hW0))
  have HN := Lib.hid (show ((((w.alloc (.cells #[.int .u32 s.1, .int .u32 s.2.1, .int .u32 s.2.2.1, .int .u32 s.2.2.2.1, .int .u32 s.2.2.2.2.1, .int .u32 s.2.2.2.2.2.1, .int .u32 s.2.2.2.2.2.2.1, .int .u32 s.2.2.2.2.2.2.2] 71)).alloc (.cells (nums .u8 B).toArray 74)).alloc (.cells #[.int .u32 0, .int .u32 0, .int .u32 0, .int .u32 0, .int .u32 0, .int .u32 0, .int .u32 0, .int .u32 0] 71)).alloc (.cells #[.int .u32 0, .int .u32 0, .int .u32 0, .int .u32 0, .int .u32 0, .int .u32 0, .int .u32 0, .int .u32 0, .int .u32 0, .int .u32 0, .int .u32 0, .int .u32 0, .int .u32 0, .int .u32 0, .int .u32 0, .int .u32 0, .int .u32 0, .int .u32 0, .int .u32 0, .int .u32 0, .int .u32 0, .int .u32 0, .int .u32 0, .int .u32 0, .int .u32 0, .int .u32 0, .int .u32 0, .int .u32 0, .int .u32 0, .int .u32 0, .int .u32 0, .int .u32 0, .int .u32 0, .int .u32 0, .int .u32 0, .int .u32 0, .int .u32 0, .int .u32 0, .int .u32 0, .int .u32 0, .int .u32 0, .int .u32 0, .int .u32 0, .int .u32 0, .int .u32 0, .int .u32 0, .int .u32 0, .int .u32 0, .int .u32 0, .int .u32 0, .int .u32 0, .int .u32 0, .int .u32 0, .int .u32 0, .int .u32 0, .int .u32 0, .int .u32 0, .int .u32 0, .int .u32 0, .int .u32 0, .int .u32 0, .int .u32 0, .int .u32 0, .int .u32 0] 92)).heap[w.heap.size + 1 + 1 + 1]? = some (.cells #[.int .u32 0, .int .u32 0, .int .u32 0, .int .u32 0, .int .u32 0, .int .u32 0, .int .u32 0, .int .u32 0, .int .u32 0, .int .u32 0, .int .u32 0, .int .u32 0, .int .u32 0, .int .u32 0, .int .u32 0, .int .u32 0, .int .u32 0, .int .u32 0, .int .u32 0, .int .u32 0, .int .u32 0, .int .u32 0, .int .u32 0, .int .u32 0, .int .u32 0, .int .u32 0, .int .u32 0, .int .u32 0, .int .u32 0, .int .u32 0, .int .u32 0, .int .u32 0, .int .u32 0, .int .u32 0, .int .u32 0, .int .u32 0, .int .u32 0, .int .u32 0, .int .u32 0, .int .u32 0, .int .u32 0, .int .u32 0, .int .u32 0, .int .u32 0, .int .u32 0, .int .u32 0, .int .u32 0, .int .u32 0, .int .u32 0, .int .u32 0, .int .u32 0, .int .u32 0, .int .u32 0, .int .u32 0, .int .u32 0, .int .u32 0, .int .u32 0, .int .u32 0, .int .u32 0, .int .u32 0, .int .u32 0, .int .u32 0, .int .u32 0, .int .u32 0] 92) by have h := heap_alloc_new (((w.alloc (.cells #[.int .u32 s.1, .int .u32 s.2.1, .int .u32 s.2.2.1, .int .u32 s.2.2.2.1, .int .u32 s.2.2.2.2.1, .int .u32 s.2.2.2.2.2.1, .int .u32 s.2.2.2.2.2.2.1, .int .u32 s.2.2.2.2.2.2.2] 71)).alloc (.cells (nums .u8 B).toArray 74)).alloc (.cells #[.int .u32 0, .int .u32 0, .int .u32 0, .int .u32 0, .int .u32 0, .int .u32 0, .int .u32 0, .int .u32 0] 71)) (.cells #[.int .u32 0, .int .u32 0, .int .u32 0, .int .u32 0, .int .u32 0, .int .u32 0, .int .u32 0, .int .u32 0, .int .u32 0, .int .u32 0, .int .u32 0, .int .u32 0, .int .u32 0, .int .u32 0, .int .u32 0, .int .u32 0, .int .u32 0, .int .u32 0, .int .u32 0, .int .u32 0, .int .u32 0, .int .u32 0, .int .u32 0, .int .u32 0, .int .u32 0, .int .u32 0, .int .u32 0, .int .u32 0, .int .u32 0, .int .u32 0, .int .u32 0, .int .u32 0, .int .u32 0, .int .u32 0, .int .u32 0, .int .u32 0, .int .u32 0, .int .u32 0, .int .u32 0, .int .u32 0, .int .u32 0, .int .u32 0, .int .u32 0, .int .u32 0, .int .u32 0, .int .u32 0, .int .u32 0, .int .u32 0, .int .u32 0, .int .u32 0, .int .u32 0, .int .u32 0, .int .u32 0, .int .u32 0, .int .u32 0, .int .u32 0, .int .u32 0, .int .u32 0, .int .u32 0, .int .u32 0, .int .u32 0, .int .u32 0, .int .u32 0, .int .u32 0] 92); simp only [World.alloc, Array.size_push] at h ⊢; exact h)
  have HSR := Lib.hid (fun cs : Array Value => show ((((w.alloc (.cells #[.int .u32 s.1, .int .u32 s.2.1, .int .u32 s.2.2.1, .int .u32 s.2.2.2.1, .int .u32 s.2.2.2.2.1, .int .u32 s.2.2.2.2.2.1, .int .u32 s.2.2.2.2.2.2.1, .int .u32 s.2.2.2.2.2.2.2] 71)).alloc (.cells (nums .u8 B).toArray 74)).alloc (.cells #[.int .u32 0, .int .u32 0, .int .u32 0, .int .u32 0, .int .u32 0, .int .u32 0, .int .u32 0, .int .u32 0] 71)).alloc (.cells #[.int .u32 0, .int .u32 0, .int .u32 0, .int .u32 0, .int .u32 0, .int .u32 0, .int .u32 0, .int .u32 0, .int .u32 0, .int .u32 0, .int .u32 0, .int .u32 0, .int .u32 0, .int .u32 0, .int .u32 0, .int .u32 0, .int .u32 0, .int .u32 0, .int .u32 0, .int .u32 0, .int .u32 0, .int .u32 0, .int .u32 0, .int .u32 0, .int .u32 0, .int .u32 0, .int .u32 0, .int .u32 0, .int .u32 0, .int .u32 0, .int .u32 0, .int .u32 0, .int .u32 0, .int .u32 0, .int .u32 0, .int .u32 0, .int .u32 0, .int .u32 0, .int .u32 0, .int .u32 0, .int .u32 0, .int .u32 0, .int .u32 0, .int .u32 0, .int .u32 0, .int .u32 0, .int .u32 0, .int .u32 0, .int .u32 0, .int .u32 0, .int .u32 0, .int .u32 0, .int .u32 0, .int .u32 0, .int .u32 0, .int .u32 0, .int .u32 0, .int .u32 0, .int .u32 0, .int .u32 0, .int .u32 0, .int .u32 0, .int .u32 0, .int .u32 0] 92)).setRow (w.heap.size + 1 + 1 + 1) cs = (((w.alloc (.cells #[.int .u32 s.1, .int .u32 s.2.1, .int .u32 s.2.2.1, .int .u32 s.2.2.2.1, .int .u32 s.2.2.2.2.1, .int .u32 s.2.2.2.2.2.1, .int .u32 s.2.2.2.2.2.2.1, .int .u32 s.2.2.2.2.2.2.2] 71)).alloc (.cells (nums .u8 B).toArray 74)).alloc (.cells #[.int .u32 0, .int .u32 0, .int .u32 0, .int .u32 0, .int .u32 0, .int .u32 0, .int .u32 0, .int .u32 0] 71)).alloc (.cells cs 92) by have h := alloc_setRow (((w.alloc (.cells #[.int .u32 s.1, .int .u32 s.2.1, .int .u32 s.2.2.1, .int .u32 s.2.2.2.1, .int .u32 s.2.2.2.2.1, .int .u32 s.2.2.2.2.2.1, .int .u32 s.2.2.2.2.2.2.1, .int .u32 s.2.2.2.2.2.2.2] 71)).alloc (.cells (nums .u8 B).toArray 74)).alloc (.cells #[.int .u32 0, .int .u32 0, .int .u32 0, .int .u32 0, .int .u32 0, .int .u32 0, .int .u32 0, .int .u32 0] 71)) 92 #[.int .u32 0, .int .u32 0, .int .u32 0, .int .u32 0, .int .u32 0, .int .u32 0, .int .u32 0, .int .u32 0, .int .u32 0, .int .u32 0, .int .u32 0, .int .u32 0, .int .u32 0, .int .u32 0, .int .u32 0, .int .u32 0, .int .u32 0, .int .u32 0, .int .u32 0, .int .u32 0, .int .u32 0, .int .u32 0, .int .u32 0, .int .u32 0, .int .u32 0, .int .u32 0, .int .u32 0, .int .u32 0, .int .u32 0, .int .u32 0, .int .u32 0, .int .u32 0, .int .u32 0, .int .u32 0, .int .u32 0, .int .u32 0, .int .u32 0, .int .u32 0, .int .u32 0, .int .u32 0, .int .u32 0, .int .u32 0, .int .u32 0, .int .u32 0, .int .u32 0, .int .u32 0, .int .u32 0, .int .u32 0, .int .u32 0, .int .u32 0, .int .u32 0, .int .u32 0, .int .u32 0, .int .u32 0, .int .u32 0, .int .u32 0, .int .u32 0, .int .u32 0, .int .u32 0, .int .u32 0, .int .u32 0, .int .u32 0, .int .u32 0, .int .u32 0] cs; simp only [World.alloc, Array.size_push] at h ⊢; exact h)
  have HA := Lib.hid A0
  have HP := Lib.hid P0
  have HR := Lib.hid R0
  have HB := Lib.hid b0
  have HK := Lib.hid K0
  clear hW0 hKC e1 e2 e3 A0 P0 R0 K0 b0 hi1 hsz
  have HS := Lib.hid hs
  have h0 := L1.out
  rw [HW.out] at h0
  have L0 := Lib.hid h0
  have hcs : (ints .u32 (schedI B)).toArray.size = 64 := by simp [ints, schedI_len]
  have hi2 : (Tryd.prog.info? 92).map (·.size) = some (ints .u32 (schedI B)).toArray.size := by rw [hcs]; kernel_rfl
  have CS := Lib.hid (And.intro hcs (And.intro hi2 (ints_one .u32 (schedI B))))
  have SU := Lib.hid (schedI_U B h8)
  have SL := Lib.hid (schedI_len B)
  rw [show (.agg (cellsS s) : Value) = .agg #[.int .u32 s.1, .int .u32 s.2.1, .int .u32 s.2.2.1, .int .u32 s.2.2.2.1, .int .u32 s.2.2.2.2.1, .int .u32 s.2.2.2.2.2.1, .int .u32 s.2.2.2.2.2.2.1, .int .u32 s.2.2.2.2.2.2.2] from rfl]
  clear L1 h0 hcs hi2 hB h8 hs
  go_enter Tryd.func71, Tryd.ntmps71
  go_wp2_with (first
    | (refine wpList_store_row rfl 92 (.tmp 5) (.tmp 18) rfl (w.heap.size + 1 + 1 + 1) _ rfl rfl _ _ HN.out (by kernel_rfl) rfl (by kernel_rfl) ?_; rw [HSR.out, ← HKC.out])
    | refine wpList_load_row rfl 74 (.tmp 3) rfl (w.heap.size + 1) rfl _ (nums .u8 B).toArray _ _ L0.out.1 (show Tryd.prog.underlying 74 = some (.array 64 5) by kernel_rfl) rfl L0.out.2 ?_)
  rw [← HW.out]
  refine (SC.out _).mono ?_
  rintro e w1 ⟨rfl, b1⟩
  clear SC HW L0 HP
  go_wp2_with (refine wpList_store_row rfl 92 (.tmp 6) (.tmp 20) rfl w1.heap.size (ints .u32 (schedI B)).toArray rfl rfl _ _ (heap_alloc_new _ _) CS.out.2.1 (by rw [CS.out.1]; rfl) CS.out.2.2 ?_; rw [alloc_setRow])
  obtain ⟨W2, hW2⟩ : ∃ W, W = w1.alloc (.cells (ints .u32 (schedI B)).toArray 92) := ⟨_, rfl⟩
  have b2 : New W0 W2 := by rw [hW2]; exact New.trans b1 ((Below.refl _ _).alloc (Nat.le_refl _) _)
  have C2 : Blk W2 w1.heap.size 92 (ints .u32 (schedI B)).toArray := by rw [hW2]; exact Blk.new _ _ _
  rw [← hW2]
  have F := Lib.hid (fun (W : World) (hW : New W2 W) => cells8 (HA.out.below (New.trans b2 hW) HA.out.lt))
  have FK := Lib.hid (fun (t : Nat) (ht : t < 64) (W : World) (hW : New W2 W) => And.intro (blk_cell (i := t) (HK.out.below (New.trans b2 hW) HK.out.lt) (show t < kI.length from ht)) (blk_cell (i := t) (C2.below hW C2.lt) (by rw [SL.out]; exact ht)))
  have HR2 := Lib.hid (HR.out.below b2 HR.out.lt)
  have HB2 := Lib.hid (New.trans HB.out b2)
  generalize hgc : w1.heap.size = gc at *
  clear hgc hW2 b1 b2 C2 HA HR HB HK CS
  refine wp_region_up New [(true, 0), (true, 1), (true, 2), (true, 3), (true, 4), (true, 5), (true, 6), (true, 7), (true, 8), (true, 9), (true, 10), (true, 11)]
    New.refl New.trans (by kernel_rfl) (by kernel_rfl) (by kernel_rfl) (by kernel_rfl) ?_
  iterate 12 (
        refine up_quiet rfl rfl (v := ?_) (fun W hW => ?_) ?_
        rotate_left
        · obtain ⟨x0, x1, x2, x3, x4, x5, x6, x7⟩ := F.out W (New.trans (New.drew W2) hW)
          go_simp <;> with_reducible rfl
        simp only [Act.put, List.setIfInBounds_toArray, List.set_cons_zero, List.set_cons_succ])
  refine up_nil ?_
  go_wp2
  have hD : New W2 W2.drew := New.drew W2
  refine wp_region_up New [(true, 0), (true, 1), (true, 2), (true, 3), (true, 4), (true, 5), (true, 6), (true, 7), (true, 8), (true, 9), (true, 10), (true, 11)]
    New.refl New.trans (by kernel_rfl) (by kernel_rfl) (by kernel_rfl) (by kernel_rfl) ?_
  iterate 12 (
        refine up_quiet rfl rfl (v := ?_) (fun W hW => ?_) ?_
        rotate_left
        · obtain ⟨x0, x1, x2, x3, x4, x5, x6, x7⟩ := F.out W (New.trans (New.trans hD (New.drew _)) hW)
          go_simp <;> with_reducible rfl
        simp only [Act.put, List.setIfInBounds_toArray, List.set_cons_zero, List.set_cons_succ])
  refine up_nil ?_
  go_wp2
  go_loopw [7, 8, 9, 10, 11, 12, 13, 14, 15] (fun a b c d e f g i k wr => ∃ t : Nat, t ≤ 64 ∧ k = .int .i64 (t : Int) ∧ a = .int .u32 (roundS (schedI B) s t).1 ∧ b = .int .u32 (roundS (schedI B) s t).2.1 ∧ c = .int .u32 (roundS (schedI B) s t).2.2.1 ∧ d = .int .u32 (roundS (schedI B) s t).2.2.2.1 ∧ e = .int .u32 (roundS (schedI B) s t).2.2.2.2.1 ∧ f = .int .u32 (roundS (schedI B) s t).2.2.2.2.2.1 ∧ g = .int .u32 (roundS (schedI B) s t).2.2.2.2.2.2.1 ∧ i = .int .u32 (roundS (schedI B) s t).2.2.2.2.2.2.2 ∧ New W2 wr) (fun _ _ _ _ _ _ _ _ k _ => 64 - (intOf k).toNat)
  case atStart => exact ⟨0, by omega, rfl, rfl, rfl, rfl, rfl, rfl, rfl, rfl, rfl, New.trans (New.drew _) (New.drew _)⟩
  case round =>
    obtain ⟨t, ht, rfl, rfl, rfl, rfl, rfl, rfl, rfl, rfl, rfl, b⟩ := hrel
    by_cases hlt : t < 64
    · have hok := roundS_ok (W := schedI B) HS.out t
      have hst : roundS (schedI B) s (t + 1) = stepS (kI.getD t 0) ((schedI B).getD t 0) (roundS (schedI B) s t) := rfl
      have F2 := Lib.hid (FK.out t hlt)
      have HST := Lib.hid hst
      generalize hr : roundS (schedI B) s t = r at *
      have HRR := Lib.hid hr
      generalize kI.getD t 0 = kt at *
      generalize (schedI B).getD t 0 = wt at *
      obtain ⟨a, b', c, d, e, f, g, i⟩ := r
      obtain ⟨ua, ub, uc, ud, ue, uf, ug, ui⟩ := hok
      simp only at ua ue HST ⊢
      have Te6 := Lib.hid (fun W : World => show Calls Tryd.prog 73 #[.int .u32 e, .int .u64 6] W (NewPost (.int .u32 (rot e 6)) W) from (right_any e 6 (by omega)).mono fun _ _ h => ⟨h.1, h.2 ▸ New.refl _⟩)
      have Te11 := Lib.hid (fun W : World => show Calls Tryd.prog 73 #[.int .u32 e, .int .u64 11] W (NewPost (.int .u32 (rot e 11)) W) from (right_any e 11 (by omega)).mono fun _ _ h => ⟨h.1, h.2 ▸ New.refl _⟩)
      have Te25 := Lib.hid (fun W : World => show Calls Tryd.prog 73 #[.int .u32 e, .int .u64 25] W (NewPost (.int .u32 (rot e 25)) W) from (right_any e 25 (by omega)).mono fun _ _ h => ⟨h.1, h.2 ▸ New.refl _⟩)
      have Ta2 := Lib.hid (fun W : World => show Calls Tryd.prog 73 #[.int .u32 a, .int .u64 2] W (NewPost (.int .u32 (rot a 2)) W) from (right_any a 2 (by omega)).mono fun _ _ h => ⟨h.1, h.2 ▸ New.refl _⟩)
      have Ta13 := Lib.hid (fun W : World => show Calls Tryd.prog 73 #[.int .u32 a, .int .u64 13] W (NewPost (.int .u32 (rot a 13)) W) from (right_any a 13 (by omega)).mono fun _ _ h => ⟨h.1, h.2 ▸ New.refl _⟩)
      have Ta22 := Lib.hid (fun W : World => show Calls Tryd.prog 73 #[.int .u32 a, .int .u64 22] W (NewPost (.int .u32 (rot a 22)) W) from (right_any a 22 (by omega)).mono fun _ _ h => ⟨h.1, h.2 ▸ New.refl _⟩)
      have jt : (t : Int) < 64 := by omega
      clear ua ub uc ud ue uf ug ui hst hr HRR
      have hpI : pI e f g i kt wt = IntKind.u32.wrap (IntKind.u32.wrap (IntKind.u32.wrap (IntKind.u32.wrap (i + bits .xor .u32 (bits .xor .u32 (rot e 6) (rot e 11)) (rot e 25)) + bits .xor .u32 (bits .and .u32 e f) (bits .and .u32 (bits .xor .u32 (if IntKind.u32.signed = true then -1 else IntKind.u32.max) e) g)) + kt) + wt) := rfl
      have hqI : qI a b' c = (bits .xor .u32 (bits .xor .u32 (rot a 2) (rot a 13)) (rot a 22) + bits .xor .u32 (bits .xor .u32 (bits .and .u32 a b') (bits .and .u32 a c)) (bits .and .u32 b' c)) % 4294967296 := rfl
      generalize rot e 6 = r6 at *
      generalize rot e 11 = r11 at *
      generalize rot e 25 = r25 at *
      generalize rot a 2 = r2 at *
      generalize rot a 13 = r13 at *
      generalize rot a 22 = r22 at *
      obtain ⟨x1, q1⟩ : ∃ x, bits .xor .u32 r6 r11 = x := ⟨_, rfl⟩
      obtain ⟨x2, q2⟩ : ∃ x, bits .xor .u32 x1 r25 = x := ⟨_, rfl⟩
      obtain ⟨x3, q3⟩ : ∃ x, IntKind.u32.wrap (i + x2) = x := ⟨_, rfl⟩
      obtain ⟨y1, q4⟩ : ∃ x, bits .and .u32 e f = x := ⟨_, rfl⟩
      obtain ⟨y2, q5⟩ : ∃ x, bits .xor .u32 (if IntKind.u32.signed = true then -1 else IntKind.u32.max) e = x := ⟨_, rfl⟩
      obtain ⟨y3, q6⟩ : ∃ x, bits .and .u32 y2 g = x := ⟨_, rfl⟩
      obtain ⟨y4, q7⟩ : ∃ x, bits .xor .u32 y1 y3 = x := ⟨_, rfl⟩
      obtain ⟨x4, q8⟩ : ∃ x, IntKind.u32.wrap (x3 + y4) = x := ⟨_, rfl⟩
      obtain ⟨x5, q9⟩ : ∃ x, IntKind.u32.wrap (x4 + kt) = x := ⟨_, rfl⟩
      obtain ⟨p, q10⟩ : ∃ x, IntKind.u32.wrap (x5 + wt) = x := ⟨_, rfl⟩
      rw [q1, q2, q3, q4, q5, q6, q7, q8, q9, q10] at hpI
      obtain ⟨z1, v1⟩ : ∃ x, bits .xor .u32 r2 r13 = x := ⟨_, rfl⟩
      obtain ⟨z2, v2⟩ : ∃ x, bits .xor .u32 z1 r22 = x := ⟨_, rfl⟩
      obtain ⟨z3, v3⟩ : ∃ x, bits .and .u32 a b' = x := ⟨_, rfl⟩
      obtain ⟨z4, v4⟩ : ∃ x, bits .and .u32 a c = x := ⟨_, rfl⟩
      obtain ⟨z5, v5⟩ : ∃ x, bits .xor .u32 z3 z4 = x := ⟨_, rfl⟩
      obtain ⟨z6, v6⟩ : ∃ x, bits .and .u32 b' c = x := ⟨_, rfl⟩
      obtain ⟨z7, v7⟩ : ∃ x, bits .xor .u32 z5 z6 = x := ⟨_, rfl⟩
      rw [v1, v2, v3, v4, v5, v6, v7] at hqI
      have hst2 := HST.out
      rw [show stepS kt wt (a, b', c, d, e, f, g, i) = ((pI e f g i kt wt + qI a b' c) % 4294967296, a, b', c, (d + pI e f g i kt wt) % 4294967296, e, f, g) from rfl, hpI, hqI] at hst2
      have HST2 := Lib.hid hst2
      have QP := Lib.hid (And.intro q1 (And.intro q2 (And.intro q3 (And.intro q4 (And.intro q5 (And.intro q6 (And.intro q7 (And.intro q8 (And.intro q9 q10)))))))))
      have QV := Lib.hid (And.intro v1 (And.intro v2 (And.intro v3 (And.intro v4 (And.intro v5 (And.intro v6 v7))))))
      clear hst2 hpI hqI HST q1 q2 q3 q4 q5 q6 q7 q8 q9 q10 v1 v2 v3 v4 v5 v6 v7
      go_wp2_with fail
      refine wp_region_up New [(true, 0), (true, 1), (true, 3), (true, 6), (true, 10), (true, 11), (true, 12), (true, 13), (true, 14), (true, 15), (true, 16), (true, 17), (true, 19), (true, 20), (true, 21), (true, 23), (true, 24), (true, 25), (false, 2), (false, 4), (true, 5), (false, 7), (true, 8), (true, 9), (true, 18), (true, 22), (true, 26), (true, 27)]
        New.refl New.trans (by kernel_rfl) (by kernel_rfl) (by kernel_rfl) (by kernel_rfl) ?_
      have hU := New.trans b (New.drew wr)
      repeat (first
        | (refine up_quiet rfl rfl (v := ?_) (fun W hW => ?_) ?_; rotate_left; (obtain ⟨o0, o1⟩ := F2.out W (New.trans hU hW); obtain ⟨q1, q2, q3, q4, q5, q6, q7, q8, q9, q10⟩ := QP.out; go_simp <;> with_reducible rfl); simp only [Act.put, List.setIfInBounds_toArray, List.set_cons_zero, List.set_cons_succ])
        | (refine up_call rfl rfl (fun K hK => ?_); go_simp
           first
           | (with_reducible refine (Te6.out _).mono ?_)
           | (with_reducible refine (Te11.out _).mono ?_)
           | (with_reducible refine (Te25.out _).mono ?_)
           rintro e9 w9 ⟨rfl, c9⟩
           refine hK _ _ c9 ?_
           clear hK
           replace hU := New.trans hU c9))
      refine up_nil ?_
      go_wp2_with fail
      (with_reducible refine (Ta2.out _).mono ?_)
      rintro e9 w2 ⟨rfl, c2⟩
      replace hU := New.trans hU c2
      go_wp2_with fail
      (with_reducible refine (Ta13.out _).mono ?_)
      rintro e9 w3 ⟨rfl, c3⟩
      replace hU := New.trans hU c3
      obtain ⟨v1, v2, v3, v4, v5, v6, v7⟩ := QV.out
      go_wp2_with fail
      (with_reducible refine (Ta22.out _).mono ?_)
      rintro e9 w4 ⟨rfl, c4⟩
      replace hU := New.trans hU c4
      clear Te6 Te11 Te25 Ta2 Ta13 Ta22 F2 c2 c3 c4 QP QV
      go_wp2
      go_roundw
      case rel =>
        refine ⟨t + 1, by omega, by go_num, ?_⟩
        rw [HST2.out]
        exact ⟨rfl, rfl, rfl, rfl, rfl, rfl, rfl, rfl, hU⟩
      case measure => simp [intOf]; omega
    · have ht64 : t = 64 := by omega
      have HT := Lib.hid (show addS s (roundS (schedI B) s t) = compS s B by rw [ht64]; rfl)
      obtain ⟨x0, x1, x2, x3, x4, x5, x6, x7⟩ := F.out wr b
      have R3 := Lib.hid (HR2.out.below b HR2.out.lt)
      have bE := New.far (New.trans HB2.out b) (far_setRow (g := w.heap.size + 1 + 1) wr (cellsS (addS s (roundS (schedI B) s t)))) (by omega)
      have BE := Lib.hid bE
      generalize roundS (schedI B) s t = r at *
      have hsz : (Tryd.prog.info? 71).map (·.size) = some (cellsS (addS s r)).size := by rw [show (cellsS (addS s r)).size = 8 from rfl]; kernel_rfl
      have HSZ := Lib.hid hsz
      clear ht64 hsz bE FK F HS SU SL
      go_wp2_with (refine wpList_store_row rfl 71 (.tmp 4) (.tmp 132) rfl (w.heap.size + 1 + 1) (cellsS (addS s r)) rfl rfl _ _ (row_of_blk R3.out) HSZ.out rfl (cellsS_one _) ?_)
      exact bodyPost_ret (results_cell_row rfl _ _ (w.heap.size + 1 + 1) _ (cellsS (addS s r)) (0, 0) _ rfl (row_of_blk (blk_setRow R3.out _)) (show Tryd.prog.underlying 71 = some (.array 8 70) by kernel_rfl) rfl HSZ.out) rfl ⟨by rw [HT.out], BE.out⟩

end Go.Proofs.YtgfemjpeegbhhaaDoor
/- What a call answers that lays bytes. -/

namespace Go.Proofs.YtgfemjpeegbhhaaDoor
open Go.RowKit Go.Hm
/-- What a call answers that lays bytes: l, in memory of its own. -/
def BytesPost (l : List Nat) (w : World) (e : Ending) (w' : World) : Prop :=
  ∃ A n c, e = .returned (.slice A n c) ∧ Own w' w.heap.size 5 (.slice A n c) (nums .u8 l) ∧ Below w.heap.size w w'

end Go.Proofs.YtgfemjpeegbhhaaDoor
/- Contracts on First and Pad. -/

namespace Go.Hm
open Go Go.RowKit
theorem padL_set {n k : Nat} (hk : k < 8) (x : Nat) : (128 :: (List.replicate (zerosN n) 0 ++ ((bitsB n).take k ++ List.replicate (8 - k) 0))).set (1 + zerosN n + k) x = 128 :: (List.replicate (zerosN n) 0 ++ ((bitsB n).take k ++ (x :: List.replicate (8 - (k + 1)) 0))) := by
  have h1 : ((bitsB n).take k).length = k := by simp [bitsB]; omega
  rw [show 1 + zerosN n + k = (zerosN n + k) + 1 by omega, List.set_cons_succ, List.set_append_right _ _ (by simp), List.set_append_right _ _ (by rw [h1]; simp), h1, List.length_replicate, show zerosN n + k - zerosN n - k = 0 by omega, show 8 - k = (8 - (k + 1)) + 1 by omega, List.replicate_succ, List.set_cons_zero]
theorem bitsB_take {n k : Nat} (hk : k < 8) : (bitsB n).take (k + 1) = (bitsB n).take k ++ [bitB n k] := by
  rw [take_snoc _ k 0 (by simp [bitsB]; exact hk)]
  congr 1
  simp [bitsB, hk]

end Go.Hm

namespace Go.Proofs.YtgfemjpeegbhhaaDoor
open Go.RowKit Go.Hm
set_option maxRecDepth 100000 in
theorem first_any {w : World} : Calls Tryd.prog 43 #[] w (NewPost (.agg (cellsS firstS)) w) := by
  have b0 : New w (w.alloc (.cells (cellsS firstS) 71)) := (Below.refl _ _).alloc (Nat.le_refl _) _
  have hsz : (Tryd.prog.info? 71).map (·.size) = some (cellsS firstS).size := by kernel_rfl
  have hR := row_of_blk (Blk.new w 71 (cellsS firstS))
  have H := Lib.hid (And.intro hsz hR)
  clear hsz hR
  go_enter Tryd.func43, Tryd.ntmps43
  go_wp2
  exact bodyPost_ret (results_cell_row rfl _ _ w.heap.size _ (cellsS firstS) (0, 0) _ rfl H.out.2 (show Tryd.prog.underlying 71 = some (.array 8 70) by kernel_rfl) rfl H.out.1) rfl ⟨rfl, b0⟩
set_option maxRecDepth 100000 in
theorem rfirst_any {w : World} : Calls Tryd.prog 70 #[] w (NewPost (.agg (cellsS firstS)) w) := by
  have b0 : New w (w.alloc (.cells (cellsS firstS) 71)) := (Below.refl _ _).alloc (Nat.le_refl _) _
  have hsz : (Tryd.prog.info? 71).map (·.size) = some (cellsS firstS).size := by kernel_rfl
  have hR := row_of_blk (Blk.new w 71 (cellsS firstS))
  have H := Lib.hid (And.intro hsz hR)
  clear hsz hR
  go_enter Tryd.func70, Tryd.ntmps70
  go_wp2
  exact bodyPost_ret (results_cell_row rfl _ _ w.heap.size _ (cellsS firstS) (0, 0) _ rfl H.out.2 (show Tryd.prog.underlying 71 = some (.array 8 70) by kernel_rfl) rfl H.out.1) rfl ⟨rfl, b0⟩
set_option maxHeartbeats 1000000 in
set_option maxRecDepth 100000 in
theorem pad_any {w : World} (n : Int) : Calls Tryd.prog 45 #[.int .i64 n] w (BytesPost (padO n) w) := by
  by_cases hn : 0 ≤ n ∧ n ≤ 2147483647
  · obtain ⟨h0, h1⟩ := hn
    obtain ⟨N, rfl⟩ := Int.eq_ofNat_of_zero_le h0
    have hP : padO (N : Int) = padL N := by unfold padO; rw [if_pos ⟨h0, h1⟩, Int.toNat_natCast]
    rw [hP]
    have d1 : decide ((N : Int) < 0) = false := by simp
    have d2 : decide ((2147483647 : Int) < (N : Int)) = false := by simp; omega
    obtain ⟨r, hr⟩ : ∃ r, r = (N + 8) % 64 := ⟨_, rfl⟩
    have hzz : zerosN N = 63 - r := by unfold zerosN; omega
    have hr64 : r < 64 := by omega
    have e3 : ((N : Int) + 8) % 64 = (r : Int) := by omega
    have e1 : ((N : Int) + 8).tmod 64 = (r : Int) := by rw [Int.tmod_eq_emod_of_nonneg (by omega)]; omega
    have HL := Lib.hid (padL_len N)
    have ST := fun k (hk : k < 8) (x : Nat) => padL_set (n := N) hk x
    have TK := fun k (hk : k < 8) => bitsB_take (n := N) hk
    have PL : padL N = 128 :: (List.replicate (zerosN N) 0 ++ bitsB N) := rfl
    obtain ⟨z, hz⟩ : ∃ z, z = zerosN N := ⟨_, rfl⟩
    rw [← hz] at ST PL hzz
    have e2 : (63 : Int) - (r : Int) = (z : Int) := by omega
    have hz64 : z < 64 := by omega
    have HST := Lib.hid ST
    have HTK := Lib.hid TK
    have HPL := Lib.hid PL
    clear hr hzz hz ST TK PL hP
    go_enter Tryd.func45, Tryd.ntmps45
    go_wp2_with (refine wpList_mk elB rfl _ _ rfl (W := w) (B := w.heap.size) (1 + z + 8) (1 + z + 8) rfl rfl (by omega) (by omega) (Nat.le_refl _) (Below.refl _ _) (Nat.le_refl _) rfl (by omega) (by simp only [maxLen]; omega) ?_; intro w1 o1 g1 b1 z1; have o2 : Own w1 w.heap.size 5 (.slice (some ⟨w.heap.size, 0, none⟩) (1 + z + 8) (1 + z + 8)) (nums .u8 (List.replicate (1 + z + 8) 0)) := by (rw [nums_replicate]; exact o1)
                 obtain ⟨_, _, c0, f0, st⟩ := o2.num0 (i := 0) (by omega))
    have o3 := st 128
    rw [show (List.replicate (1 + z + 8) 0).set 0 128 = 128 :: (List.replicate z 0 ++ ((bitsB N).take 0 ++ List.replicate (8 - 0) 0)) by
      rw [show 1 + z + 8 = (z + 8) + 1 by omega, List.replicate_succ, List.set_cons_zero, List.replicate_append_replicate.symm]; rfl] at o3
    have b3 := b1.setCell (p := ⟨w.heap.size, 0, none⟩) (Nat.le_refl _) (.int .u8 ((128 : Nat) : Int))
    have O3 := Lib.hid o3
    have B3 := Lib.hid b3
    clear c0 f0 st o1 o2 o3 b3 g1 b1
    go_loopw [22] (fun i wr => ∃ k : Nat, k ≤ 8 ∧ i = .int .i64 (k : Int) ∧ Hid (Own wr w.heap.size 5 (.slice (some ⟨w.heap.size, 0, none⟩) (1 + z + 8) (1 + z + 8)) (nums .u8 (128 :: (List.replicate z 0 ++ ((bitsB N).take k ++ List.replicate (8 - k) 0))))) ∧ Hid (New w wr)) (fun i _ => 8 - (intOf i).toNat)
    case atStart => exact ⟨0, by omega, rfl, O3, B3⟩
    case round =>
      clear O3 B3
      obtain ⟨k, hk, rfl, O, b⟩ := hrel
      by_cases hlt : k < 8
      · obtain ⟨q, hq⟩ : ∃ q, q = 1 + z + k := ⟨_, rfl⟩
        obtain ⟨sh, hsh⟩ : ∃ q, q = 56 - 8 * k := ⟨_, rfl⟩
        obtain ⟨x, hx⟩ : ∃ x, x = bitB N k := ⟨_, rfl⟩
        obtain ⟨_, hltb, c0, f0, st⟩ := O.out.num0 (i := q) (by omega)
        have i1 : (1 : Int) + (z : Int) + (k : Int) = (q : Int) := by omega
        have i2 : (56 : Int) - 8 * (k : Int) = (sh : Int) := by omega
        have v1 : 8 * (N : Int) / 2 ^ sh % 256 = (x : Int) := by rw [hx, hsh]; unfold bitB; simp
        have o3 := st x
        rw [hx, hq, HST.out k hlt, ← hx, ← hq] at o3
        have tk := HTK.out k hlt
        rw [← hx] at tk
        rw [show (bitsB N).take k ++ (x :: List.replicate (8 - (k + 1)) 0) = (bitsB N).take (k + 1) ++ List.replicate (8 - (k + 1)) 0 by rw [tk]; simp] at o3
        have b3 := b.out.setCell (p := ⟨w.heap.size, q, none⟩) (Nat.le_refl _) (.int .u8 (x : Int))
        have O3 := Lib.hid o3
        have B3 := Lib.hid b3
        have hq2 : q < 1 + z + 8 := by omega
        clear hq hsh hx st o3 b3 tk O b
        go_wp2
        go_roundw
        case rel => exact ⟨k + 1, by omega, by go_num, O3, B3⟩
        case measure => simp [intOf]; omega
      · obtain rfl : k = 8 := by omega
        have o := O.out
        rw [List.take_of_length_le (by simp [bitsB]), show List.replicate (8 - 8) 0 = ([] : List Nat) from rfl, List.append_nil, ← HPL.out] at o
        have O3 := Lib.hid o
        clear o O
        go_wp2
        go_ret
        exact ⟨_, _, _, rfl, O3.out, b.out⟩
  · have hP : padO n = [] := by unfold padO; rw [if_neg hn]
    rw [hP]
    by_cases h0 : n < 0
    · have d1 : decide (n < 0) = true := by simpa using h0
      clear hn hP
      go_enter Tryd.func45, Tryd.ntmps45
      go_wp2
      go_ret
      exact ⟨_, _, _, rfl, Own.nil_, New.refl _⟩
    · have d1 : decide (n < 0) = false := by simpa using h0
      have d2 : decide (2147483647 < n) = true := by simp; omega
      clear hn hP
      go_enter Tryd.func45, Tryd.ntmps45
      go_wp2
      go_ret
      exact ⟨_, _, _, rfl, Own.nil_, New.refl _⟩

end Go.Proofs.YtgfemjpeegbhhaaDoor
/- Contract on ref01.Pad. -/

namespace Go.Hm
open Go Go.RowKit
theorem own_lit (w : World) (e : TypeId) (k : IntKind) (l : List Nat) (hl : l.length ≤ maxLen) : Own (w.alloc (.cells (nums k l).toArray e)) w.heap.size e (.slice (some ⟨w.heap.size, 0, none⟩) l.length l.length) (nums k l) := by
  have e1 : (nums k l).length = l.length := nums_length k l
  unfold Own
  rw [e1]
  exact ⟨by rw [e1]; simp, .inr ⟨w.heap.size, l.length, (nums k l).toArray, rfl, Nat.le_refl _, heap_alloc_new w _, Nat.le_refl _, hl, by simp [e1], by rw [List.toList_toArray, List.take_of_length_le (by rw [e1]; omega)]⟩⟩
def lenOf : Value → Nat
  | .slice _ n _ => n
  | _ => 0

end Go.Hm

namespace Go.Proofs.YtgfemjpeegbhhaaDoor
open Go.RowKit Go.Hm
set_option maxHeartbeats 1000000 in
set_option maxRecDepth 100000 in
theorem rpad_any {w : World} (n : Int) : Calls Tryd.prog 69 #[.int .i64 n] w (BytesPost (padO n) w) := by
  by_cases hn : 0 ≤ n ∧ n ≤ 2147483647
  · obtain ⟨h0, h1⟩ := hn
    obtain ⟨N, rfl⟩ := Int.eq_ofNat_of_zero_le h0
    have hP : padO (N : Int) = padL N := by unfold padO; rw [if_pos ⟨h0, h1⟩, Int.toNat_natCast]
    rw [hP]
    have d1 : decide ((N : Int) < 0) = false := by simp
    have d2 : decide ((2147483647 : Int) < (N : Int)) = false := by simp; omega
    have TK := fun k (hk : k < 8) => bitsB_take (n := N) hk
    have PL : padL N = 128 :: (List.replicate (zerosN N) 0 ++ bitsB N) := rfl
    obtain ⟨z, hz⟩ : ∃ z, z = zerosN N := ⟨_, rfl⟩
    rw [← hz] at PL
    have hz64 : z < 64 := by rw [hz]; unfold zerosN; omega
    have ZZ := fun m (h : 1 ≤ m ∧ m ≤ 1 + z) => show (N + m + 8) % 64 = 0 ↔ m = 1 + z by rw [hz] at h ⊢; unfold zerosN at h ⊢; omega
    have HZZ := Lib.hid ZZ
    have HTK := Lib.hid TK
    have HPL := Lib.hid PL
    have o1 : Own (w.alloc (.cells #[.int .u8 128] 5)) w.heap.size 5 (.slice (some ⟨w.heap.size, 0, none⟩) 1 1) (nums .u8 [128]) :=
      own_lit w 5 .u8 [128] (by simp [maxLen])
    have b1 : New w (w.alloc (.cells #[.int .u8 128] 5)) := (Below.refl _ _).alloc (Nat.le_refl _) _
    have O1 := Lib.hid o1
    have B1 := Lib.hid b1
    clear hz TK PL ZZ hP o1 b1
    go_enter Tryd.func69, Tryd.ntmps69
    go_wp2
    go_loopw [3] (fun v wr => ∃ (m : Nat) (A : Option Addr) (c : Nat), 1 ≤ m ∧ m ≤ 1 + z ∧ v = .slice A m c ∧ Hid (Own wr w.heap.size 5 (.slice A m c) (nums .u8 (128 :: List.replicate (m - 1) 0))) ∧ Hid (New w wr)) (fun v _ => 1 + z - lenOf v)
    case atStart => exact ⟨1, _, _, by omega, by omega, rfl, O1, B1⟩
    case round =>
      clear O1 B1
      obtain ⟨m, A, c, hm1, hm2, rfl, O, b⟩ := hrel
      obtain ⟨r, hr⟩ : ∃ r, r = (N + m + 8) % 64 := ⟨_, rfl⟩
      have e1 : ((N : Int) + (m : Int) + 8) % 64 = (r : Int) := by omega
      have e2 : ((N : Int) + (m : Int) + 8).tmod 64 = (r : Int) := by rw [Int.tmod_eq_emod_of_nonneg (by omega)]; omega
      have hzz := HZZ.out m ⟨hm1, hm2⟩
      rw [← hr] at hzz
      by_cases hlt : m < 1 + z
      · have hr0 : r ≠ 0 := by omega
        have d3 : ((r : Int) != 0) = true := by simpa using hr0
        have o := O.out
        have bb := b.out
        have z0 := bb.size
        clear hzz hr hr0
        go_wp2_with (refine wpList_pushN elB rfl (.tmp 20) (.tmp 21) rfl (W := w) (B := w.heap.size) o rfl rfl 0 rfl bb (Nat.le_refl _) z0 (by omega) (by simp only [maxLen]; omega) ?_
                     intro A' c' w8 _ _ o' g' b' hsz hat)
        go_roundw
        case rel =>
          refine ⟨m + 1, A', c', by omega, by omega, rfl, Lib.hid ?_, Lib.hid b'⟩
          have e : (128 :: List.replicate (m - 1) 0 : List Nat) ++ [0] = 128 :: List.replicate (m + 1 - 1) 0 := by
            rw [List.cons_append, ← List.replicate_succ', show m - 1 + 1 = m + 1 - 1 by omega]
          rw [← e]
          exact o'
        case measure => simp [lenOf]; omega
      · have hm : m = 1 + z := by omega
        have hr0 : r = 0 := by omega
        have d3 : ((r : Int) != 0) = false := by simp [hr0]
        have o := O.out
        rw [hm, show 1 + z - 1 = z by omega] at o
        obtain ⟨b8, hb8⟩ : ∃ q, q = 8 * N := ⟨_, rfl⟩
        have e3 : 8 * (N : Int) = (b8 : Int) := by omega
        have e4 : b8 < 17179869184 := by omega
        have HB8 := Lib.hid hb8
        have O2 : Hid (Own wr w.heap.size 5 (.slice A m c) (nums .u8 (128 :: (List.replicate z 0 ++ (bitsB N).take 0)))) := Lib.hid (by rw [hm]; simpa using o)
        have HM := Lib.hid hm
        clear o O hzz hr hr0 hm hb8
        go_wp2
        clear d3 e1 e2
        go_loopw [3, 5] (fun v i wr => ∃ (j m : Nat) (A : Option Addr) (c : Nat) (kk : Int), j ≤ 8 ∧ Hid (m = 1 + z + j) ∧ i = .int .i64 kk ∧ Hid (kk = 56 - 8 * (j : Int)) ∧ v = .slice A m c ∧ Hid (Own wr w.heap.size 5 (.slice A m c) (nums .u8 (128 :: (List.replicate z 0 ++ (bitsB N).take j)))) ∧ Hid (New w wr)) (fun _ i _ => (8 + intOf i).toNat)
        case atStart => exact ⟨0, m, A, c, 56, by omega, HM, rfl, Lib.hid rfl, rfl, O2, b⟩
        case round =>
          clear O2 b HM
          obtain ⟨j, m, A, c, kk, hj, HM, rfl, HK, rfl, O, b⟩ := hrel
          by_cases hlt : j < 8
          · obtain ⟨sh, hsh⟩ : ∃ q, q = 56 - 8 * j := ⟨_, rfl⟩
            obtain ⟨x, hx⟩ : ∃ x, x = bitB N j := ⟨_, rfl⟩
            have hkk : kk = (sh : Int) := by rw [HK.out]; omega
            have v1 : (b8 : Int) / 2 ^ sh % 256 = (x : Int) := by rw [hx, hsh, HB8.out]; unfold bitB; simp
            have tk := HTK.out j hlt
            rw [← hx] at tk
            have HTK2 := Lib.hid tk
            have o := O.out
            have bb := b.out
            have z0 := bb.size
            have hm2 : m < 80 := by rw [HM.out]; omega
            have HS := Lib.hid hsh
            have hs2 : sh ≤ 56 := by omega
            subst hkk
            have d4 : decide (0 ≤ (sh : Int)) = true := by simp
            clear hx tk hsh O b
            go_wp2_with (refine wpList_pushN elB rfl (.tmp 30) (.tmp 36) rfl (W := w) (B := w.heap.size) o rfl rfl x rfl bb (Nat.le_refl _) z0 (by omega) (by simp only [maxLen]; omega) ?_
                         intro A' c' w8 _ _ o' g' b' hsz hat)
            go_roundw
            case rel =>
              refine ⟨j + 1, m + 1, A', c', (sh : Int) - 8, by omega, Lib.hid (by rw [HM.out]; omega), rfl, Lib.hid (by rw [HK.out]; omega), rfl, Lib.hid ?_, Lib.hid b'⟩
              rw [HTK2.out, ← List.append_assoc, ← List.cons_append]
              exact o'
            case measure => simp [intOf]; omega
          · have hj8 : j = 8 := by omega
            have hkk : kk = -8 := by rw [HK.out, hj8]; omega
            subst hkk
            have o := O.out
            rw [hj8, List.take_of_length_le (by simp [bitsB]), ← HPL.out] at o
            have O3 := Lib.hid o
            clear o O hj8 HK
            go_wp2
            go_ret
            exact ⟨_, _, _, rfl, O3.out, b.out⟩
  · have hP : padO n = [] := by unfold padO; rw [if_neg hn]
    rw [hP]
    by_cases h0 : n < 0
    · have d1 : decide (n < 0) = true := by simpa using h0
      clear hn hP
      go_enter Tryd.func69, Tryd.ntmps69
      go_wp2
      go_ret
      exact ⟨_, _, _, rfl, Own.nil_, New.refl _⟩
    · have d1 : decide (n < 0) = false := by simpa using h0
      have d2 : decide (2147483647 < n) = true := by simp; omega
      clear hn hP
      go_enter Tryd.func69, Tryd.ntmps69
      go_wp2
      go_ret
      exact ⟨_, _, _, rfl, Own.nil_, New.refl _⟩

end Go.Proofs.YtgfemjpeegbhhaaDoor
/- Messages, block by block; laws for whole arrays in drawn regions. No program is named here. -/

namespace Go.Hm
open Go Go.RowKit
/-- The k-th block of so many bytes. -/
def blkN (M : List Nat) (k : Nat) : List Nat := (M.drop (64 * k)).take 64
/-- The state behind k blocks. -/
def foldK (M : List Nat) : Nat → S8
  | 0 => firstS
  | k + 1 => compS (foldK M k) (blkN M k)
theorem foldK_ok (M : List Nat) (k : Nat) : OkS (foldK M k) := by
  cases k with
  | zero => exact firstS_ok
  | succ k => exact compS_ok _ _
theorem blkN_len {M : List Nat} {k : Nat} (h : 64 * k + 64 ≤ M.length) : (blkN M k).length = 64 := by
  unfold blkN
  rw [List.length_take, List.length_drop]
  omega
theorem blkN_lt {M : List Nat} {k : Nat} (h : ∀ x ∈ M, x < 256) : ∀ x ∈ blkN M k, x < 256 := fun x hx => h x (List.mem_of_mem_drop (List.mem_of_mem_take hx))
/-- A message and what stands behind it. -/
def msgL (l : List Nat) : List Nat := l ++ padL l.length
theorem msgL_lt {l : List Nat} (h : ∀ x ∈ l, x < 256) : ∀ x ∈ msgL l, x < 256 := by
  intro x hx
  rcases List.mem_append.1 hx with hx | hx
  · exact h x hx
  · exact padL_lt _ x hx
theorem msgL_len (l : List Nat) : (msgL l).length = l.length + (padL l.length).length := by simp [msgL]
theorem msgL_mod (l : List Nat) : (msgL l).length % 64 = 0 := by rw [msgL_len]; exact padL_mod _
theorem blkN_head {l : List Nat} {k : Nat} (h : 64 * k + 64 ≤ l.length) : blkN (msgL l) k = (l.drop (64 * k)).take 64 := by
  unfold blkN msgL
  rw [List.drop_append_of_le_length (by omega), List.take_append_of_le_length (by rw [List.length_drop]; omega)]
/-- The state behind a message. -/
def sumS (l : List Nat) : S8 := foldK (msgL l) ((msgL l).length / 64)
def wordsL (s : S8) : List Int := [s.1, s.2.1, s.2.2.1, s.2.2.2.1, s.2.2.2.2.1, s.2.2.2.2.2.1, s.2.2.2.2.2.2.1, s.2.2.2.2.2.2.2]
theorem cellsS_words (s : S8) : cellsS s = (ints .u32 (wordsL s)).toArray := rfl
/-- A byte of a digest. -/
def digB (s : S8) (k : Nat) : Int := (wordsL s).getD (k / 4) 0 / 2 ^ (24 - k % 4 * 8) % 256
def digI (s : S8) : List Int := (List.range 32).map (digB s)
/-- The digest of bytes. -/
def sumI (l : List Nat) : List Int := digI (sumS l)
theorem digI_len (s : S8) : (digI s).length = 32 := by simp [digI]
theorem digI_take {s : S8} {k : Nat} (hk : k < 32) : (digI s).take (k + 1) = (digI s).take k ++ [digB s k] := by
  rw [take_snoc _ k 0 (by rw [digI_len]; exact hk)]
  congr 1
  simp [digI, hk]
def pad32 (l : List Int) : List Int := l ++ List.replicate (32 - l.length) 0
theorem pad32_len {l : List Int} (h : l.length ≤ 32) : (pad32 l).length = 32 := by simp [pad32]; omega
theorem pad32_set {l : List Int} (h : l.length < 32) (x : Int) : (pad32 l).set l.length x = pad32 (l ++ [x]) := by
  unfold pad32
  rw [List.set_append_right _ _ (Nat.le_refl _), Nat.sub_self, show 32 - l.length = (32 - (l ++ [x]).length) + 1 by simp; omega, List.replicate_succ, List.set_cons_zero]
  simp
theorem pad32_full {l : List Int} (h : l.length = 32) : pad32 l = l := by simp [pad32, h]

section
variable {P : Program} {w : World} {a : Act} {dst : Option Tmp} {tt : TypeId} {pos : String} {af : Array Edge} {gd : Option (Nat × Bool)}
theorem exec_load_row {ty t : TypeId} {x : Operand} {g : Nat} {cs : Array Value} {d : TypeDesc} (hx : a.eval x = .pointer (some ⟨g, 0, none⟩)) (B : Blk w g t cs) (hu : P.underlying ty = some d) (hd : d.isRow = true) (hi : (P.info? ty).map (·.size) = some cs.size) :
    (execOp a.eval ⟨dst, .load ty x, tt, pos, af, gd⟩).run P w = .ok (.value (.agg cs)) w := by
  unfold execOp
  simp only [hx, Instr.loadAt, Instr.sureAddr, Sem.run_bind, Sem.run_pure, Result.andThen_ok, run_loadVar_row w g t ty cs (0, 0) d B hu (by cases d <;> simp_all [TypeDesc.isRow]) hi]
theorem run_loadVar_at (w : World) (ad : Addr) (ty : TypeId) (cs : List Value) (d : TypeDesc) (hc : ∀ j v, cs[j]? = some v → w.cell? (ad.add j) = some v)
    (hu : P.underlying ty = some d) (hd : d.isRow = true) (hi : (P.info? ty).map (·.size) = some cs.length) :
    (loadVar ty ad).run P w = .ok (.agg cs.toArray) w := by
  have hl : (loadCells ad cs.length).run P w = .ok cs.toArray w := run_loadCells_list (P := P) w ad cs hc
  cases hq : P.info? ty with
  | none => simp [hq] at hi
  | some i =>
    have hs : i.size = cs.length := by simpa [hq] using hi
    have hagg : (isAgg ty).run P w = .ok true w := by
      unfold isAgg
      rw [Sem.run_bind, run_underlying hu w]
      cases d <;> simp_all
    simp [loadVar, Sem.run_bind, hagg, sizeOf, typeInfo, hq, hs, hl]
theorem exec_load_at {ty : TypeId} {x : Operand} {ad : Addr} {cs : List Value} {d : TypeDesc} (hx : a.eval x = .pointer (some ad)) (hc : ∀ j v, cs[j]? = some v → w.cell? (ad.add j) = some v) (hu : P.underlying ty = some d) (hd : d.isRow = true) (hi : (P.info? ty).map (·.size) = some cs.length) :
    (execOp a.eval ⟨dst, .load ty x, tt, pos, af, gd⟩).run P w = .ok (.value (.agg cs.toArray)) w := by
  unfold execOp
  simp only [hx, Instr.loadAt, Instr.sureAddr, Sem.run_bind, Sem.run_pure, Result.andThen_ok, run_loadVar_at w ad ty cs d hc hu hd hi]
theorem exec_arrayAt {arr e : TypeId} {x : Operand} {n len cap : Nat} {A : Option Addr} (hx : a.eval x = .slice A len cap) (h : P.underlying arr = some (.array n e)) (hn : n ≤ len) :
    (execOp a.eval ⟨dst, .sliceToArrayPointer arr x, tt, pos, af, gd⟩).run P w = .ok (.value (.pointer A)) w := by
  unfold execOp
  simp only [hx, Sem.run_bind, run_arrayAt w arr e n A len cap h hn, Result.andThen_ok, Sem.run_pure]
theorem exec_slice {t : TypeId} {x : Operand} {lo hi mx : Option Operand} {v : Value} (hv : (Instr.sliceAt t (a.eval x) (lo.map a.eval) (hi.map a.eval) (mx.map a.eval)).run P w = .ok v w) :
    (execOp a.eval ⟨dst, .slice t x lo hi mx, tt, pos, af, gd⟩).run P w = .ok (.value v) w := by
  unfold execOp
  simp only [Sem.run_bind, hv, Result.andThen_ok, Sem.run_pure]
theorem wpList_slice {ops : Array Oper} {rest : List Oper} {o : Oper} {Q : Exit → Act → World → Prop} (hgd : o.guard = none) (t : TypeId) (x : Operand) (lo hi mx : Option Operand) (ho : o.op = .slice t x lo hi mx) {v : Value}
    (hv : (Instr.sliceAt t (a.eval x) (lo.map a.eval) (hi.map a.eval) (mx.map a.eval)).run P w = .ok v w) (h : wpList P ops Q rest (a.put o.dst v) w) : wpList P ops Q (o :: rest) a w := by
  refine wpList_plain hgd fun K hK => ?_
  unfold Oper.wp execOp
  simp only [ho, Sem.run_bind, hv, Result.andThen_ok, Sem.run_pure]
  exact hK _ _ h
end

end Go.Hm
