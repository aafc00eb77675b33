/- Contract on sha.schedule. -/
import Derived.Test.YtglghnnmfplmdaaDoorShaT
import Derived.Test.YtglghnnmfplmdaaDoorUpT
import Derived.Lib.Hide

namespace Go.Proofs.YtglghnnmfplmdaaDoor
open Go.RowKit Go.Hm
theorem blk_cell {w : World} {g : Nat} {ty : TypeId} {l : List Int} {k : IntKind} {i : Nat} (h : Blk w g ty (ints k l).toArray) (hi : i < l.length) : w.cell? ⟨g, i, none⟩ = some (.int k (l.getD i 0)) := by
  rw [h.cell]
  simpa using ints_at k l i hi
theorem blk_cellN {w : World} {g : Nat} {ty : TypeId} {l : List Nat} {k : IntKind} {i : Nat} (h : Blk w g ty (nums k l).toArray) (hi : i < l.length) : w.cell? ⟨g, i, none⟩ = some (.int k ((l.getD i 0 : Nat) : Int)) := by
  rw [h.cell]
  simpa using nums_at k l i hi
theorem blk_setI {w : World} {g : Nat} {ty : TypeId} {l : List Int} {k : IntKind} {i : Nat} (h : Blk w g ty (ints k l).toArray) (x : Int) : Blk (w.setCell ⟨g, i, none⟩ (.int k x)) g ty (ints k (l.set i x)).toArray := by
  have := h.set_ i (.int k x)
  simpa [ints, List.map_set] using this
theorem blk_setRow {w : World} {g : Nat} {ty : TypeId} {old : Array Value} (h : Blk w g ty old) (cs : Array Value) : Blk (w.setRow g cs) g ty cs := by
  unfold Blk at h ⊢
  simp [World.setRow, Array.getElem?_modify, h]
theorem far_setRow {g : Nat} (w : World) (cs : Array Value) : Far g w (w.setRow g cs) :=
  ⟨rfl, rfl, rfl, by simp [World.setRow], fun k _ hne => by simp [World.setRow, Array.getElem?_modify]; intro e; subst e; exact absurd rfl hne⟩
theorem far_set {g i : Nat} (u : Value) (w : World) : Far g w (w.setCell ⟨g, i, none⟩ u) :=
  ⟨rfl, rfl, rfl, by simp [World.setCell], fun k _ hne => Below.heap_setCell _ _ _ _ (by rintro rfl; exact hne rfl)⟩
/-- Only block g is turned, which is new: nothing that was is turned. -/
theorem New.far {w w0 w1 : World} {g : Nat} (h : New w w0) (k : Far g w0 w1) (hg : w.heap.size ≤ g) : New w w1 := Far.below h k hg (Nat.le_refl _)
theorem row_of_blk {w : World} {g : Nat} {ty : TypeId} {cs : Array Value} (h : Blk w g ty cs) : w.heap[g]? = some (.cells cs ty (0, 0)) := h
theorem ints_one (k : IntKind) (l : List Int) : (ints k l).toArray.all (·.oneCell') = true := by
  rw [List.all_toArray, List.all_eq_true]
  intro u hu
  simp only [ints, List.mem_map] at hu
  obtain ⟨z, _, rfl⟩ := hu
  rfl
def zero64 : List Int := List.replicate 64 0
set_option maxHeartbeats 4000000 in
set_option maxRecDepth 100000 in
theorem sched_any {w : World} (B : List Nat) (hB : B.length = 64) (h8 : ∀ x ∈ B, x < 256) :
    Calls Tryd.prog 17 #[.agg (nums .u8 B).toArray] w (NewPost (.agg (ints .u32 (schedI B)).toArray) w) := by
  have hWL : (wordsI B).length = 16 := by simp [wordsI]
  have HWL := Lib.hid hWL
  clear hWL
  go_enter Tryd.func17, Tryd.ntmps17
  go_wp2
  go_loopw [10] (fun i wr => ∃ k : Nat, k ≤ 16 ∧ i = .int .i64 (k : Int) ∧ Hid (Blk wr (w.heap.size + 1 + 1) 38 (ints .u32 (padI ((wordsI B).take k))).toArray) ∧ Hid (Blk wr w.heap.size 30 (nums .u8 B).toArray) ∧ Hid (Blk wr (w.heap.size + 1) 38 (ints .u32 zero64).toArray) ∧ New w wr) (fun i _ => 16 - (intOf i).toNat)
  case atStart =>
    refine ⟨0, by omega, rfl, Lib.hid ?_, Lib.hid ?_, Lib.hid ?_, ?_⟩
    · have h := Blk.new ((w.alloc (.cells (nums .u8 B).toArray 30)).alloc (.cells (ints .u32 zero64).toArray 38)) 38 (ints .u32 zero64).toArray
      simp only [World.alloc, Array.size_push] at h
      exact h
    · exact ((Blk.new w _ _).alloc _).alloc _
    · have h := (Blk.new (w.alloc (.cells (nums .u8 B).toArray 30)) 38 (ints .u32 zero64).toArray).alloc (.cells (ints .u32 zero64).toArray 38)
      simp only [World.alloc, Array.size_push] at h
      exact h
    · exact (((Below.refl _ _).alloc (Nat.le_refl _) _).alloc (by simp) _).alloc (by simp; omega) _
  case round =>
    obtain ⟨k, hk, rfl, T, P, Z, b⟩ := hrel
    by_cases hlt : k < 16
    · obtain ⟨a, ha⟩ : ∃ a, a = 4 * k := ⟨_, rfl⟩
      obtain ⟨a1, ha1⟩ : ∃ a, a = 4 * k + 1 := ⟨_, rfl⟩
      obtain ⟨a2, ha2⟩ : ∃ a, a = 4 * k + 2 := ⟨_, rfl⟩
      obtain ⟨a3, ha3⟩ : ∃ a, a = 4 * k + 3 := ⟨_, rfl⟩
      have i0 : IntKind.i64.wrap (4 * (k : Int)) = (a : Int) := by rw [IntKind.wrap_i64]; omega
      have i1 : IntKind.i64.wrap ((a : Int) + 1) = (a1 : Int) := by rw [IntKind.wrap_i64]; omega
      have i2 : IntKind.i64.wrap ((a : Int) + 2) = (a2 : Int) := by rw [IntKind.wrap_i64]; omega
      have i3 : IntKind.i64.wrap ((a : Int) + 3) = (a3 : Int) := by rw [IntKind.wrap_i64]; omega
      have j0 : (a : Int) < 64 := by omega
      have j1 : (a1 : Int) < 64 := by omega
      have j2 : (a2 : Int) < 64 := by omega
      have j3 : (a3 : Int) < 64 := by omega
      have hx0 := getD_lt B a h8
      have hx1 := getD_lt B a1 h8
      have hx2 := getD_lt B a2 h8
      have hx3 := getD_lt B a3 h8
      have hst := wordsI_take (B := B) hlt
      rw [← ha1, ← ha2, ← ha3, ← ha] at hst
      have hor := or_word hx0 hx1 hx2 hx3
      have hset := padI_set (l := (wordsI B).take k) (by rw [List.length_take, HWL.out]; omega) (wordI (B.getD a 0) (B.getD a1 0) (B.getD a2 0) (B.getD a3 0))
      rw [← hst, List.length_take, HWL.out, Nat.min_eq_left (by omega)] at hset
      have F := Lib.hid (fun (W : World) (hW : Far (w.heap.size + 1 + 1) wr W) => show W.cell? ⟨w.heap.size, a, none⟩ = some (.int .u8 ((B.getD a 0 : Nat) : Int)) ∧ W.cell? ⟨w.heap.size, a1, none⟩ = some (.int .u8 ((B.getD a1 0 : Nat) : Int)) ∧ W.cell? ⟨w.heap.size, a2, none⟩ = some (.int .u8 ((B.getD a2 0 : Nat) : Int)) ∧ W.cell? ⟨w.heap.size, a3, none⟩ = some (.int .u8 ((B.getD a3 0 : Nat) : Int)) by
        have P2 := P.out.grown hW (by simp; omega)
        exact ⟨blk_cellN P2 (by omega), blk_cellN P2 (by omega), blk_cellN P2 (by omega), blk_cellN P2 (by omega)⟩)
      generalize B.getD a 0 = x0 at *
      generalize B.getD a1 0 = x1 at *
      generalize B.getD a2 0 = x2 at *
      generalize B.getD a3 0 = x3 at *
      have HSET := Lib.hid hset
      have HOR := Lib.hid hor
      have hk64 : (k : Int) < 64 := by omega
      have HT := Lib.hid (padI_len (l := (wordsI B).take k) (by rw [List.length_take, HWL.out]; omega))
      clear ha ha1 ha2 ha3 hst hset hor hx0 hx1 hx2 hx3
      go_wp2
      refine wp_region_up (Far (w.heap.size + 1 + 1)) [(true, 0), (true, 1), (true, 2), (true, 3), (true, 4), (true, 5), (true, 6), (true, 7), (true, 8), (true, 9), (true, 10), (true, 11), (true, 12), (true, 13), (true, 14), (true, 15), (true, 16), (true, 17), (true, 18), (true, 19), (true, 20), (true, 21), (true, 22), (true, 23), (true, 24), (true, 25), (true, 26), (true, 27), (true, 28), (true, 29), (true, 30), (false, 31)]
        (Far.refl _) Far.trans (by kernel_rfl) (by kernel_rfl) (by kernel_rfl) (by kernel_rfl) ?_
      iterate 31 (
        refine up_quiet rfl rfl (v := ?_) (fun W hW => ?_) ?_
        rotate_left
        · obtain ⟨y0, y1, y2, y3⟩ := F.out W (Far.trans (Far.drew _ wr) hW)
          go_simp <;> with_reducible rfl
        simp only [Act.put, List.setIfInBounds_toArray, List.set_cons_zero, List.set_cons_succ])
      rw [HOR.out]
      have T2 : Blk wr.drew (w.heap.size + 1 + 1) 38 (ints .u32 (padI ((wordsI B).take k))).toArray := T.out
      have z0 := blk_cell (i := k) T2 (by rw [HT.out]; omega)
      have f0 := T2.frozen k
      have hF : Far (w.heap.size + 1 + 1) wr.drew (wr.drew.setCell ⟨w.heap.size + 1 + 1, k, none⟩ (.int .u32 (wordI x0 x1 x2 x3))) := far_set _ _
      have T3 := Lib.hid (blk_setI T2 (i := k) (wordI x0 x1 x2 x3))
      clear T2
      refine up_call rfl rfl (fun K hK => ?_)
      go_simp
      refine hK _ _ hF ?_
      clear hK z0 f0
      refine up_nil ?_
      rw [HSET.out] at T3
      have hF2 := Far.trans (Far.drew _ wr) hF
      have P3 := Lib.hid (P.out.grown hF2 (by simp; omega))
      have Z3 := Lib.hid (Z.out.grown hF2 (by simp))
      have b3 := New.far b hF2 (by omega)
      clear F HSET HOR HT hF hF2 i0 i1 i2 i3 j0 j1 j2 j3
      go_wp2
      go_roundw
      case rel => exact ⟨k + 1, by omega, by go_num, T3, P3, Z3, b3⟩
      case measure => simp [intOf]; omega
    · have hT := T.out
      rw [List.take_of_length_le (by rw [HWL.out]; omega)] at hT
      have HT0 : Hid (Blk wr (w.heap.size + 1 + 1) 38 (ints .u32 (padI (schedN B 0))).toArray) := Lib.hid hT
      clear hT T
      go_wp2
      go_loopw [5] (fun i wr => ∃ t j : Nat, Hid (t = 16 + j) ∧ 16 ≤ t ∧ t ≤ 64 ∧ i = .int .i64 (t : Int) ∧ Hid (Blk wr (w.heap.size + 1 + 1) 38 (ints .u32 (padI (schedN B j))).toArray) ∧ Hid (Blk wr (w.heap.size + 1) 38 (ints .u32 zero64).toArray) ∧ New w wr) (fun i _ => 64 - (intOf i).toNat)
      case atStart => exact ⟨16, 0, Lib.hid rfl, by omega, by omega, rfl, HT0, Z, b⟩
      case round =>
        clear P Z b HT0
        obtain ⟨t, j, HTJ, ht1, ht2, rfl, T, Z, b⟩ := hrel
        by_cases hlt : t < 64
        · obtain ⟨b15, hb15⟩ : ∃ a, a = t - 15 := ⟨_, rfl⟩
          obtain ⟨b2, hb2⟩ : ∃ a, a = t - 2 := ⟨_, rfl⟩
          obtain ⟨b16, hb16⟩ : ∃ a, a = t - 16 := ⟨_, rfl⟩
          obtain ⟨b7, hb7⟩ : ∃ a, a = t - 7 := ⟨_, rfl⟩
          have i15 : IntKind.i64.wrap ((t : Int) - 15) = (b15 : Int) := by rw [IntKind.wrap_i64]; omega
          have i2 : IntKind.i64.wrap ((t : Int) - 2) = (b2 : Int) := by rw [IntKind.wrap_i64]; omega
          have i16 : IntKind.i64.wrap ((t : Int) - 16) = (b16 : Int) := by rw [IntKind.wrap_i64]; omega
          have i7 : IntKind.i64.wrap ((t : Int) - 7) = (b7 : Int) := by rw [IntKind.wrap_i64]; omega
          have j15 : (b15 : Int) < 64 := by omega
          have j2 : (b2 : Int) < 64 := by omega
          have j16 : (b16 : Int) < 64 := by omega
          have j7 : (b7 : Int) < 64 := by omega
          have jt : (t : Int) < 64 := by omega
          have hlen : (schedN B j).length = t := by rw [schedN_len, HTJ.out]
          have hplen : (padI (schedN B j)).length = 64 := padI_len (by omega)
          have hU := schedN_U B h8 j
          have hset := padI_set (l := schedN B j) (by omega) (nextW (schedN B j))
          rw [hlen, show schedN B j ++ [nextW (schedN B j)] = schedN B (j + 1) from rfl] at hset
          have hnext : nextW (schedN B j) = IntKind.u32.wrap (IntKind.u32.wrap (IntKind.u32.wrap ((schedN B j).getD b16 0 + bits .xor .u32 (bits .xor .u32 (rot ((schedN B j).getD b15 0) 7) (rot ((schedN B j).getD b15 0) 18)) ((schedN B j).getD b15 0 / 8)) + (schedN B j).getD b7 0)
            + bits .xor .u32 (bits .xor .u32 (rot ((schedN B j).getD b2 0) 17) (rot ((schedN B j).getD b2 0) 19)) ((schedN B j).getD b2 0 / 1024)) := by
            unfold nextW
            rw [hlen, ← hb15, ← hb2, ← hb16, ← hb7]
          have F := Lib.hid (fun (W : World) (hW : Far (w.heap.size + 1 + 1) wr W) (hN : New wr W) => show W.cell? ⟨w.heap.size + 1 + 1, b15, none⟩ = some (.int .u32 ((schedN B j).getD b15 0)) ∧ W.cell? ⟨w.heap.size + 1 + 1, b2, none⟩ = some (.int .u32 ((schedN B j).getD b2 0)) ∧ W.cell? ⟨w.heap.size + 1 + 1, b16, none⟩ = some (.int .u32 ((schedN B j).getD b16 0)) ∧ W.cell? ⟨w.heap.size + 1 + 1, b7, none⟩ = some (.int .u32 ((schedN B j).getD b7 0)) by
            have T2 := T.out.below hN T.out.lt
            have c15 := blk_cell (i := b15) T2 (by omega)
            have c2 := blk_cell (i := b2) T2 (by omega)
            have c16 := blk_cell (i := b16) T2 (by omega)
            have c7 := blk_cell (i := b7) T2 (by omega)
            rw [padI_get (by omega)] at c15 c2 c16 c7
            exact ⟨c15, c2, c16, c7⟩)
          have hux := getD_U (k := b15) hU
          have huy := getD_U (k := b2) hU
          generalize nextW (schedN B j) = nx at *
          generalize (schedN B j).getD b15 0 = x at *
          generalize (schedN B j).getD b2 0 = y at *
          generalize (schedN B j).getD b16 0 = v at *
          generalize (schedN B j).getD b7 0 = u at *
          have T7 := Lib.hid (fun W : World => show Calls Tryd.prog 18 #[.int .u32 x, .int .i64 7] W (DrewPost (.int .u32 (rot x 7)) W) from turn_any x 7 hux (by omega))
          have T18 := Lib.hid (fun W : World => show Calls Tryd.prog 18 #[.int .u32 x, .int .i64 18] W (DrewPost (.int .u32 (rot x 18)) W) from turn_any x 18 hux (by omega))
          have T17 := Lib.hid (fun W : World => show Calls Tryd.prog 18 #[.int .u32 y, .int .i64 17] W (DrewPost (.int .u32 (rot y 17)) W) from turn_any y 17 huy (by omega))
          have T19 := Lib.hid (fun W : World => show Calls Tryd.prog 18 #[.int .u32 y, .int .i64 19] W (DrewPost (.int .u32 (rot y 19)) W) from turn_any y 19 huy (by omega))
          have HSET := Lib.hid hset
          have HNEXT := Lib.hid hnext
          have HLEN := Lib.hid hplen
          clear hset hnext hplen hlen hux huy hU hb15 hb2 hb16 hb7
          generalize rot x 7 = r7 at *
          generalize rot x 18 = r18 at *
          generalize rot y 17 = r17 at *
          generalize rot y 19 = r19 at *
          go_wp2
          refine wp_region_up New [(true, 0), (true, 1), (true, 2), (true, 3), (true, 4), (true, 5), (true, 6), (true, 7), (true, 8), (true, 9)]
            New.refl New.trans (by kernel_rfl) (by kernel_rfl) (by kernel_rfl) (by kernel_rfl) ?_
          have hN := New.drew wr
          iterate 10 (
            refine up_quiet rfl rfl (v := ?_) (fun W hW => ?_) ?_
            rotate_left
            · obtain ⟨y0, y1, y2, y3⟩ := F.out W (Far.of_new (New.trans hN hW)) (New.trans hN hW)
              go_simp <;> with_reducible rfl
            simp only [Act.put, List.setIfInBounds_toArray, List.set_cons_zero, List.set_cons_succ])
          refine up_nil ?_
          go_wp2_with fail
          (with_reducible refine (T7.out _).mono ?_)
          rintro e w2 ⟨rfl, k2, rfl⟩
          replace hN := New.trans hN (new_drewN _ k2)
          go_wp2_with fail
          (with_reducible refine (T18.out _).mono ?_)
          rintro e w2 ⟨rfl, k3, rfl⟩
          replace hN := New.trans hN (new_drewN _ k3)
          go_wp2_with fail
          (with_reducible refine (T17.out _).mono ?_)
          rintro e w2 ⟨rfl, k4, rfl⟩
          replace hN := New.trans hN (new_drewN _ k4)
          go_wp2_with fail
          (with_reducible refine (T19.out _).mono ?_)
          rintro e w2 ⟨rfl, k5, rfl⟩
          replace hN := New.trans hN (new_drewN _ k5)
          go_wp2_with fail
          refine wp_region_upT New 15 [(1, 0), (1, 1), (1, 2), (1, 3), (0, 4), (1, 5), (1, 6), (1, 7), (1, 8), (1, 9), (0, 10), (1, 11), (1, 12), (1, 13), (1, 14), (2, 15)]
            New.refl New.trans (by kernel_rfl) (by kernel_rfl) (by kernel_rfl) (by kernel_rfl) ?_
          obtain ⟨V, hV⟩ : ∃ V, V = (wr.drewN (1 + k2 + k3 + k4 + k5)).drew := ⟨_, rfl⟩
          have hN2 : New wr V := by rw [hV]; exact New.trans (new_drewN _ _) (New.drew _)
          have TD : Blk V (w.heap.size + 1 + 1) 38 (ints .u32 (padI (schedN B j))).toArray := by rw [hV]; exact T.out
          have ZD : Blk V (w.heap.size + 1) 38 (ints .u32 zero64).toArray := by rw [hV]; exact Z.out
          rw [← hV]
          have HTD := Lib.hid TD
          have HZD := Lib.hid ZD
          clear hV TD ZD hN
          repeat (first
            | (refine upT_pure rfl rfl (v := ?_) (fun W => ?_) ?_; rotate_left; (go_simp <;> with_reducible rfl); simp only [Act.put, List.setIfInBounds_toArray, List.set_cons_zero, List.set_cons_succ])
            | (refine upT_quiet rfl rfl (v := ?_) (fun W hW => ?_) ?_; rotate_left; (obtain ⟨y0, y1, y2, y3⟩ := F.out W (Far.of_new (New.trans hN2 hW)) (New.trans hN2 hW); go_simp <;> with_reducible rfl); simp only [Act.put, List.setIfInBounds_toArray, List.set_cons_zero, List.set_cons_succ]))
          rw [← HNEXT.out]
          have z0 := blk_cell (i := t) HTD.out (by rw [HLEN.out]; omega)
          have f0 := HTD.out.frozen t
          have hF : Far (w.heap.size + 1 + 1) V (V.setCell ⟨w.heap.size + 1 + 1, t, none⟩ (.int .u32 nx)) := far_set _ _
          have T3 := Lib.hid (blk_setI HTD.out (i := t) nx)
          rw [HSET.out] at T3
          have Z3 := Lib.hid (HZD.out.grown hF (by simp))
          have b3 := New.far (New.trans b hN2) hF (by omega)
          refine upT_call rfl rfl (fun K hK => ?_)
          go_simp
          refine hK _ _ (.inr (.inl rfl)) ?_
          clear hK z0 f0 hF
          refine upT_nil ?_
          have HTJ2 := Lib.hid (show t + 1 = 16 + (j + 1) by rw [HTJ.out]; omega)
          clear F HSET HNEXT HLEN HTD HZD i15 i2 i16 i7 j15 j2 j16 j7 jt T7 T17 T18 T19
          go_wp2
          go_roundw
          case rel => exact ⟨t + 1, j + 1, HTJ2, by omega, by omega, by go_num, T3, Z3, b3⟩
          case measure => simp [intOf]; omega
        · obtain rfl : t = 64 := by omega
          have hj : j = 48 := by have := HTJ.out; omega
          subst hj
          have hlen : (schedN B 48).length = 64 := by rw [schedN_len]
          have hT := T.out
          rw [padI_full hlen] at hT
          have hsz : (ints .u32 (schedN B 48)).toArray.size = 64 := by simp [ints, hlen]
          have hz : (ints .u32 zero64).toArray.size = 64 := by simp [ints, zero64]
          have i1 : (Tryd.prog.info? 38).map (·.size) = some (ints .u32 (schedN B 48)).toArray.size := by rw [hsz]; kernel_rfl
          have G1 := row_of_blk hT
          have G2 := row_of_blk Z.out
          have hR := blk_setRow Z.out (ints .u32 (schedN B 48)).toArray
          have hF := far_setRow (g := w.heap.size + 1) wr (ints .u32 (schedN B 48)).toArray
          have bE := New.far b hF (by omega)
          have H := Lib.hid (And.intro hsz (And.intro hz (And.intro i1 (And.intro G1 (And.intro G2 (And.intro hR bE))))))
          have hS : schedN B 48 = schedI B := rfl
          rw [hS] at H
          have hone := ints_one .u32 (schedI B)
          have HONE := Lib.hid hone
          generalize (ints .u32 (schedI B)).toArray = cs at *
          clear hT hsz hz i1 G1 G2 hR hF bE hS hone T Z hlen
          go_wp2_with (first
            | (refine wpList_load_row rfl 38 (.tmp 3) rfl (w.heap.size + 1 + 1) rfl _ cs _ _ H.out.2.2.2.1 (show Tryd.prog.underlying 38 = some (.array 64 28) by kernel_rfl) rfl H.out.2.2.1 ?_)
            | (refine wpList_store_row rfl 38 (.tmp 2) (.tmp 88) rfl (w.heap.size + 1) cs rfl rfl _ _ H.out.2.2.2.2.1 H.out.2.2.1 (by rw [H.out.1, H.out.2.1]) HONE.out ?_))
          exact bodyPost_ret (results_cell_row rfl _ _ (w.heap.size + 1) _ cs (0, 0) _ rfl H.out.2.2.2.2.2.1 (show Tryd.prog.underlying 38 = some (.array 64 28) by kernel_rfl) rfl H.out.2.2.1) rfl ⟨rfl, H.out.2.2.2.2.2.2⟩

end Go.Proofs.YtglghnnmfplmdaaDoor
