/- Contract on ref01.words. -/
import Derived.Test.YtglghnnmfplmdaaDoorShaS

namespace Go.Hm
open Go Go.RowKit
/-- The number of so many bytes. -/
def horN (B : List Nat) (k : Nat) : Nat → Nat
  | 0 => 0
  | m + 1 => horN B k m * 256 + B.getD (4 * k + m) 0
theorem horN_lt {B : List Nat} {k : Nat} (h8 : ∀ x ∈ B, x < 256) (m : Nat) : horN B k m < 256 ^ m := by
  induction m with
  | zero => simp [horN]
  | succ m ih =>
    have := getD_lt B (4 * k + m) h8
    rw [horN, Nat.pow_succ]
    omega
theorem horN_step {B : List Nat} {k m : Nat} (h8 : ∀ x ∈ B, x < 256) (hm : m < 4) :
    IntKind.u32.wrap (IntKind.u32.wrap (256 * ((horN B k m : Nat) : Int)) + IntKind.u32.wrap ((B.getD (4 * k + m) 0 : Nat) : Int)) = ((horN B k (m + 1) : Nat) : Int) := by
  have h1 := horN_lt (k := k) h8 m
  have h2 := getD_lt B (4 * k + m) h8
  have h3 : 256 ^ m ≤ 16777216 := by
    have : (256 : Nat) ^ m ≤ 256 ^ 3 := Nat.pow_le_pow_right (by omega) (by omega)
    exact Nat.le_trans this (by decide)
  rw [IntKind.wrap_u32', IntKind.wrap_u32', IntKind.wrap_u32', horN]
  omega
theorem horN_four (B : List Nat) (k : Nat) : ((horN B k 4 : Nat) : Int) = wordI (B.getD (4 * k) 0) (B.getD (4 * k + 1) 0) (B.getD (4 * k + 2) 0) (B.getD (4 * k + 3) 0) := by
  simp [horN, wordI]
theorem padI_zero {l : List Int} (h : l.length < 64) : (padI l).set l.length 0 = padI l := by
  rw [padI_set h]
  unfold padI
  rw [show 64 - l.length = (64 - (l ++ [0]).length) + 1 by simp; omega, List.replicate_succ]
  simp

end Go.Hm

namespace Go.Proofs.YtglghnnmfplmdaaDoor
open Go.RowKit Go.Hm
set_option maxHeartbeats 4000000 in
set_option maxRecDepth 100000 in
theorem words_any {w : World} (B : List Nat) (hB : B.length = 64) (h8 : ∀ x ∈ B, x < 256) :
    Calls Tryd.prog 19 #[.agg (nums .u8 B).toArray] w (NewPost (.agg (ints .u32 (schedI B)).toArray) w) := by
  have hWL : (wordsI B).length = 16 := by simp [wordsI]
  have HWL := Lib.hid hWL
  clear hWL
  go_enter Tryd.func19, Tryd.ntmps19
  go_wp2
  go_loopw [4] (fun i wr => ∃ k : Nat, k ≤ 16 ∧ i = .int .i64 (k : Int) ∧ Hid (Blk wr (w.heap.size + 1 + 1) 38 (ints .u32 (padI ((wordsI B).take k))).toArray) ∧ Hid (Blk wr w.heap.size 30 (nums .u8 B).toArray) ∧ Hid (Blk wr (w.heap.size + 1) 38 (ints .u32 zero64).toArray) ∧ New w wr) (fun i _ => 16 - (intOf i).toNat)
  case atStart =>
    refine ⟨0, by omega, rfl, Lib.hid ?_, Lib.hid ?_, Lib.hid ?_, ?_⟩
    · have h := Blk.new ((w.alloc (.cells (nums .u8 B).toArray 30)).alloc (.cells (ints .u32 zero64).toArray 38)) 38 (ints .u32 zero64).toArray
      simp only [World.alloc, Array.size_push] at h
      exact h
    · exact ((Blk.new w _ _).alloc _).alloc _
    · have h := (Blk.new (w.alloc (.cells (nums .u8 B).toArray 30)) 38 (ints .u32 zero64).toArray).alloc (.cells (ints .u32 zero64).toArray 38)
      simp only [World.alloc, Array.size_push] at h
      exact h
    · exact (((Below.refl _ _).alloc (Nat.le_refl _) _).alloc (by simp) _).alloc (by simp; omega) _
  case round =>
    obtain ⟨k, hk, rfl, T, P, Z, b⟩ := hrel
    by_cases hlt : k < 16
    · have hst := wordsI_take (B := B) hlt
      rw [← horN_four] at hst
      have htk : ((wordsI B).take k).length = k := by rw [List.length_take, HWL.out]; omega
      have hset := padI_set (l := (wordsI B).take k) (by omega) ((horN B k 4 : Nat) : Int)
      rw [← hst, htk] at hset
      have hzero := padI_zero (l := (wordsI B).take k) (by omega)
      rw [htk] at hzero
      have HSET := Lib.hid hset
      have HT := Lib.hid (padI_len (l := (wordsI B).take k) (by omega))
      have T0 : Hid (Blk wr (w.heap.size + 1 + 1) 38 (ints .u32 ((padI ((wordsI B).take k)).set k ((horN B k 0 : Nat) : Int))).toArray) := Lib.hid (by show Blk wr _ _ (ints .u32 ((padI ((wordsI B).take k)).set k 0)).toArray; rw [hzero]; exact T.out)
      have hk64 : (k : Int) < 64 := by omega
      have d16 : decide ((k : Int) < 16) = true := by simp; omega
      clear hst htk hset hzero
      go_wp2
      go_loopw [5] (fun i wr => ∃ m : Nat, m ≤ 4 ∧ i = .int .i64 (m : Int) ∧ Hid (Blk wr (w.heap.size + 1 + 1) 38 (ints .u32 ((padI ((wordsI B).take k)).set k ((horN B k m : Nat) : Int))).toArray) ∧ Hid (Blk wr w.heap.size 30 (nums .u8 B).toArray) ∧ Hid (Blk wr (w.heap.size + 1) 38 (ints .u32 zero64).toArray) ∧ New w wr) (fun i _ => 4 - (intOf i).toNat)
      case atStart => exact ⟨0, by omega, rfl, T0, P, Z, b⟩
      case round =>
        clear T P Z b T0
        obtain ⟨m, hm, rfl, T, P, Z, b⟩ := hrel
        by_cases hlm : m < 4
        · obtain ⟨a, ha⟩ : ∃ a, a = 4 * k := ⟨_, rfl⟩
          obtain ⟨am, ham⟩ : ∃ a, a = 4 * k + m := ⟨_, rfl⟩
          have i0 : IntKind.i64.wrap (4 * (k : Int)) = (a : Int) := by rw [IntKind.wrap_i64]; omega
          have i1 : IntKind.i64.wrap ((a : Int) + (m : Int)) = (am : Int) := by rw [IntKind.wrap_i64]; omega
          have j1 : (am : Int) < 64 := by omega
          have hstep := horN_step (B := B) (k := k) h8 hlm
          rw [← ham] at hstep
          have F := Lib.hid (fun (W : World) (hN : New wr W) => show W.cell? ⟨w.heap.size, am, none⟩ = some (.int .u8 ((B.getD am 0 : Nat) : Int)) ∧ W.cell? ⟨w.heap.size + 1 + 1, k, none⟩ = some (.int .u32 ((horN B k m : Nat) : Int)) by
            have P2 := P.out.below hN P.out.lt
            have T2 := T.out.below hN T.out.lt
            have c1 := blk_cell (i := k) T2 (by rw [List.length_set, HT.out]; omega)
            rw [show ((padI ((wordsI B).take k)).set k ((horN B k m : Nat) : Int)).getD k 0 = ((horN B k m : Nat) : Int) by rw [List.getD_eq_getElem?_getD, List.getElem?_set_self (by rw [HT.out]; omega)]; rfl] at c1
            exact ⟨blk_cellN P2 (by omega), c1⟩)
          generalize B.getD am 0 = x at *
          have HSTEP := Lib.hid hstep
          generalize hh : horN B k m = h at *
          have HH := Lib.hid hh
          clear ha ham hstep hh
          go_wp2
          refine wp_region_upT New 14 [(1, 0), (1, 1), (1, 2), (0, 3), (1, 4), (1, 5), (1, 6), (1, 7), (1, 8), (1, 9), (0, 10), (1, 11), (1, 12), (1, 13), (2, 14)]
            New.refl New.trans (by kernel_rfl) (by kernel_rfl) (by kernel_rfl) (by kernel_rfl) ?_
          obtain ⟨V, hV⟩ : ∃ V, V = wr.drew := ⟨_, rfl⟩
          have hN2 : New wr V := by rw [hV]; exact New.drew _
          have HTD : Hid (Blk V (w.heap.size + 1 + 1) 38 (ints .u32 ((padI ((wordsI B).take k)).set k (h : Int))).toArray) := Lib.hid (by rw [hV]; exact T.out)
          have HPD : Hid (Blk V w.heap.size 30 (nums .u8 B).toArray) := Lib.hid (by rw [hV]; exact P.out)
          have HZD : Hid (Blk V (w.heap.size + 1) 38 (ints .u32 zero64).toArray) := Lib.hid (by rw [hV]; exact Z.out)
          rw [← hV]
          clear hV
          repeat (first
            | (refine upT_pure rfl rfl (v := ?_) (fun W => ?_) ?_; rotate_left; (go_simp <;> with_reducible rfl); simp only [Act.put, List.setIfInBounds_toArray, List.set_cons_zero, List.set_cons_succ])
            | (refine upT_quiet rfl rfl (v := ?_) (fun W hW => ?_) ?_; rotate_left; (obtain ⟨y0, y1⟩ := F.out W (New.trans hN2 hW); go_simp <;> with_reducible rfl); simp only [Act.put, List.setIfInBounds_toArray, List.set_cons_zero, List.set_cons_succ]))
          rw [HSTEP.out]
          have z0 := (F.out V hN2).2
          have f0 := HTD.out.frozen k
          have hF : Far (w.heap.size + 1 + 1) V (V.setCell ⟨w.heap.size + 1 + 1, k, none⟩ (.int .u32 ((horN B k (m + 1) : Nat) : Int))) := far_set _ _
          have t3 := blk_setI HTD.out (i := k) ((horN B k (m + 1) : Nat) : Int)
          rw [List.set_set] at t3
          have T3 := Lib.hid t3
          have P3 := Lib.hid (HPD.out.grown hF (by simp; omega))
          have Z3 := Lib.hid (HZD.out.grown hF (by simp))
          have b3 := New.far (New.trans b hN2) hF (by omega)
          clear t3
          refine upT_call rfl rfl (fun K hK => ?_)
          go_simp
          refine hK _ _ (.inr (.inl rfl)) ?_
          clear hK z0 f0 hF
          refine upT_nil ?_
          clear F HSTEP HTD HPD HZD i0 i1 j1
          go_wp2
          go_roundw
          case rel => exact ⟨m + 1, by omega, by go_num, T3, P3, Z3, b3⟩
          case measure => simp [intOf]; omega
        · have hm4 : m = 4 := by omega
          have hT := T.out
          rw [hm4, HSET.out] at hT
          have T4 := Lib.hid hT
          clear hT T HSET hm4
          go_wp2
          go_roundw
          case rel => exact ⟨k + 1, by omega, by go_num, T4, P, Z, b⟩
          case measure => simp [intOf]; omega
    · have hT := T.out
      rw [List.take_of_length_le (by rw [HWL.out]; omega)] at hT
      have HT0 : Hid (Blk wr (w.heap.size + 1 + 1) 38 (ints .u32 (padI (schedN B 0))).toArray) := Lib.hid hT
      clear hT T
      go_wp2
      go_loopw [6] (fun i wr => ∃ t j : Nat, Hid (t = 16 + j) ∧ 16 ≤ t ∧ t ≤ 64 ∧ i = .int .i64 (t : Int) ∧ Hid (Blk wr (w.heap.size + 1 + 1) 38 (ints .u32 (padI (schedN B j))).toArray) ∧ Hid (Blk wr (w.heap.size + 1) 38 (ints .u32 zero64).toArray) ∧ New w wr) (fun i _ => 64 - (intOf i).toNat)
      case atStart => exact ⟨16, 0, Lib.hid rfl, by omega, by omega, rfl, HT0, Z, b⟩
      case round =>
        clear P Z b HT0
        obtain ⟨t, j, HTJ, ht1, ht2, rfl, T, Z, b⟩ := hrel
        by_cases hlt : t < 64
        · obtain ⟨b15, hb15⟩ : ∃ a, a = t - 15 := ⟨_, rfl⟩
          obtain ⟨b2, hb2⟩ : ∃ a, a = t - 2 := ⟨_, rfl⟩
          obtain ⟨b16, hb16⟩ : ∃ a, a = t - 16 := ⟨_, rfl⟩
          obtain ⟨b7, hb7⟩ : ∃ a, a = t - 7 := ⟨_, rfl⟩
          have i15 : IntKind.i64.wrap ((t : Int) - 15) = (b15 : Int) := by rw [IntKind.wrap_i64]; omega
          have i2 : IntKind.i64.wrap ((t : Int) - 2) = (b2 : Int) := by rw [IntKind.wrap_i64]; omega
          have i16 : IntKind.i64.wrap ((t : Int) - 16) = (b16 : Int) := by rw [IntKind.wrap_i64]; omega
          have i7 : IntKind.i64.wrap ((t : Int) - 7) = (b7 : Int) := by rw [IntKind.wrap_i64]; omega
          have j15 : (b15 : Int) < 64 := by omega
          have j2 : (b2 : Int) < 64 := by omega
          have j16 : (b16 : Int) < 64 := by omega
          have j7 : (b7 : Int) < 64 := by omega
          have jt : (t : Int) < 64 := by omega
          have hlen : (schedN B j).length = t := by rw [schedN_len, HTJ.out]
          have hplen : (padI (schedN B j)).length = 64 := padI_len (by omega)
          have hset := padI_set (l := schedN B j) (by omega) (nextW (schedN B j))
          rw [hlen, show schedN B j ++ [nextW (schedN B j)] = schedN B (j + 1) from rfl] at hset
          have hnext : nextW (schedN B j) = IntKind.u32.wrap (IntKind.u32.wrap (IntKind.u32.wrap ((schedN B j).getD b16 0 + bits .xor .u32 (bits .xor .u32 (rot ((schedN B j).getD b15 0) 7) (rot ((schedN B j).getD b15 0) 18)) ((schedN B j).getD b15 0 / 8)) + (schedN B j).getD b7 0)
            + bits .xor .u32 (bits .xor .u32 (rot ((schedN B j).getD b2 0) 17) (rot ((schedN B j).getD b2 0) 19)) ((schedN B j).getD b2 0 / 1024)) := by
            unfold nextW
            rw [hlen, ← hb15, ← hb2, ← hb16, ← hb7]
          have F := Lib.hid (fun (W : World) (hW : Far (w.heap.size + 1 + 1) wr W) (hN : New wr W) => show W.cell? ⟨w.heap.size + 1 + 1, b15, none⟩ = some (.int .u32 ((schedN B j).getD b15 0)) ∧ W.cell? ⟨w.heap.size + 1 + 1, b2, none⟩ = some (.int .u32 ((schedN B j).getD b2 0)) ∧ W.cell? ⟨w.heap.size + 1 + 1, b16, none⟩ = some (.int .u32 ((schedN B j).getD b16 0)) ∧ W.cell? ⟨w.heap.size + 1 + 1, b7, none⟩ = some (.int .u32 ((schedN B j).getD b7 0)) by
            have T2 := T.out.below hN T.out.lt
            have c15 := blk_cell (i := b15) T2 (by omega)
            have c2 := blk_cell (i := b2) T2 (by omega)
            have c16 := blk_cell (i := b16) T2 (by omega)
            have c7 := blk_cell (i := b7) T2 (by omega)
            rw [padI_get (by omega)] at c15 c2 c16 c7
            exact ⟨c15, c2, c16, c7⟩)
          generalize nextW (schedN B j) = nx at *
          generalize (schedN B j).getD b15 0 = x at *
          generalize (schedN B j).getD b2 0 = y at *
          generalize (schedN B j).getD b16 0 = v at *
          generalize (schedN B j).getD b7 0 = u at *
          have T7 := Lib.hid (fun W : World => show Calls Tryd.prog 20 #[.int .u32 x, .int .u64 7] W (ValPost (.int .u32 (rot x 7)) W) from right_any x 7 (by omega))
          have T18 := Lib.hid (fun W : World => show Calls Tryd.prog 20 #[.int .u32 x, .int .u64 18] W (ValPost (.int .u32 (rot x 18)) W) from right_any x 18 (by omega))
          have T17 := Lib.hid (fun W : World => show Calls Tryd.prog 20 #[.int .u32 y, .int .u64 17] W (ValPost (.int .u32 (rot y 17)) W) from right_any y 17 (by omega))
          have T19 := Lib.hid (fun W : World => show Calls Tryd.prog 20 #[.int .u32 y, .int .u64 19] W (ValPost (.int .u32 (rot y 19)) W) from right_any y 19 (by omega))
          have HSET := Lib.hid hset
          have HNEXT := Lib.hid hnext
          have HLEN := Lib.hid hplen
          clear hset hnext hplen hlen hb15 hb2 hb16 hb7
          generalize rot x 7 = r7 at *
          generalize rot x 18 = r18 at *
          generalize rot y 17 = r17 at *
          generalize rot y 19 = r19 at *
          obtain ⟨y0, y1, y2, y3⟩ := F.out wr (Far.refl _ _) (New.refl _)
          go_wp2_with fail
          (with_reducible refine (T7.out _).mono ?_)
          rintro e w2 ⟨rfl, rfl⟩
          go_wp2_with fail
          (with_reducible refine (T18.out _).mono ?_)
          rintro e w2 ⟨rfl, rfl⟩
          go_wp2_with fail
          (with_reducible refine (T17.out _).mono ?_)
          rintro e w2 ⟨rfl, rfl⟩
          go_wp2_with fail
          (with_reducible refine (T19.out _).mono ?_)
          rintro e w2 ⟨rfl, rfl⟩
          clear y0 y1 y2 y3
          go_wp2_with fail
          refine wp_region_upT New 15 [(1, 0), (1, 1), (1, 2), (1, 3), (0, 4), (1, 5), (1, 6), (1, 7), (1, 8), (1, 9), (0, 10), (1, 11), (1, 12), (1, 13), (1, 14), (2, 15)]
            New.refl New.trans (by kernel_rfl) (by kernel_rfl) (by kernel_rfl) (by kernel_rfl) ?_
          obtain ⟨V, hV⟩ : ∃ V, V = wr.drew := ⟨_, rfl⟩
          have hN2 : New wr V := by rw [hV]; exact New.drew _
          have TD : Blk V (w.heap.size + 1 + 1) 38 (ints .u32 (padI (schedN B j))).toArray := by rw [hV]; exact T.out
          have ZD : Blk V (w.heap.size + 1) 38 (ints .u32 zero64).toArray := by rw [hV]; exact Z.out
          rw [← hV]
          have HTD := Lib.hid TD
          have HZD := Lib.hid ZD
          clear hV TD ZD
          repeat (first
            | (refine upT_pure rfl rfl (v := ?_) (fun W => ?_) ?_; rotate_left; (go_simp <;> with_reducible rfl); simp only [Act.put, List.setIfInBounds_toArray, List.set_cons_zero, List.set_cons_succ])
            | (refine upT_quiet rfl rfl (v := ?_) (fun W hW => ?_) ?_; rotate_left; (obtain ⟨y0, y1, y2, y3⟩ := F.out W (Far.of_new (New.trans hN2 hW)) (New.trans hN2 hW); go_simp <;> with_reducible rfl); simp only [Act.put, List.setIfInBounds_toArray, List.set_cons_zero, List.set_cons_succ]))
          rw [← HNEXT.out]
          have z0 := blk_cell (i := t) HTD.out (by rw [HLEN.out]; omega)
          have f0 := HTD.out.frozen t
          have hF : Far (w.heap.size + 1 + 1) V (V.setCell ⟨w.heap.size + 1 + 1, t, none⟩ (.int .u32 nx)) := far_set _ _
          have T3 := Lib.hid (blk_setI HTD.out (i := t) nx)
          rw [HSET.out] at T3
          have Z3 := Lib.hid (HZD.out.grown hF (by simp))
          have b3 := New.far (New.trans b hN2) hF (by omega)
          refine upT_call rfl rfl (fun K hK => ?_)
          go_simp
          refine hK _ _ (.inr (.inl rfl)) ?_
          clear hK z0 f0 hF
          refine upT_nil ?_
          have HTJ2 := Lib.hid (show t + 1 = 16 + (j + 1) by rw [HTJ.out]; omega)
          clear F HSET HNEXT HLEN HTD HZD i15 i2 i16 i7 j15 j2 j16 j7 jt T7 T17 T18 T19
          go_wp2
          go_roundw
          case rel => exact ⟨t + 1, j + 1, HTJ2, by omega, by omega, by go_num, T3, Z3, b3⟩
          case measure => simp [intOf]; omega
        · obtain rfl : t = 64 := by omega
          have hj : j = 48 := by have := HTJ.out; omega
          subst hj
          have hlen : (schedN B 48).length = 64 := by rw [schedN_len]
          have hT := T.out
          rw [padI_full hlen] at hT
          have hsz : (ints .u32 (schedN B 48)).toArray.size = 64 := by simp [ints, hlen]
          have hz : (ints .u32 zero64).toArray.size = 64 := by simp [ints, zero64]
          have i1 : (Tryd.prog.info? 38).map (·.size) = some (ints .u32 (schedN B 48)).toArray.size := by rw [hsz]; kernel_rfl
          have G1 := row_of_blk hT
          have G2 := row_of_blk Z.out
          have hR := blk_setRow Z.out (ints .u32 (schedN B 48)).toArray
          have hF := far_setRow (g := w.heap.size + 1) wr (ints .u32 (schedN B 48)).toArray
          have bE := New.far b hF (by omega)
          have H := Lib.hid (And.intro hsz (And.intro hz (And.intro i1 (And.intro G1 (And.intro G2 (And.intro hR bE))))))
          have hS : schedN B 48 = schedI B := rfl
          rw [hS] at H
          have hone := ints_one .u32 (schedI B)
          have HONE := Lib.hid hone
          generalize (ints .u32 (schedI B)).toArray = cs at *
          clear hT hsz hz i1 G1 G2 hR hF bE hS hone T Z hlen
          go_wp2_with (first
            | (refine wpList_load_row rfl 38 (.tmp 3) rfl (w.heap.size + 1 + 1) rfl _ cs _ _ H.out.2.2.2.1 (show Tryd.prog.underlying 38 = some (.array 64 28) by kernel_rfl) rfl H.out.2.2.1 ?_)
            | (refine wpList_store_row rfl 38 (.tmp 2) (.tmp 76) rfl (w.heap.size + 1) cs rfl rfl _ _ H.out.2.2.2.2.1 H.out.2.2.1 (by rw [H.out.1, H.out.2.1]) HONE.out ?_))
          exact bodyPost_ret (results_cell_row rfl _ _ (w.heap.size + 1) _ cs (0, 0) _ rfl H.out.2.2.2.2.2.1 (show Tryd.prog.underlying 38 = some (.array 64 28) by kernel_rfl) rfl H.out.2.2.1) rfl ⟨rfl, H.out.2.2.2.2.2.2⟩

end Go.Proofs.YtglghnnmfplmdaaDoor
