/- CellCols returns true whatever comes in, and leaves all that was there as it was. -/
import Derived.Test.YtcnaameebbcmhaaSmall07
import Derived.Test.YtcnaameebbcmhaaOpenTb
import Derived.Test.YtcnaameebbcmhaaColsOk
import Derived.Test.YtcnaameebbcmhaaUpR
import Derived.Test.YtcnaameebbcmhaaTrod
import Derived.Test.YtcnaameebbcmhaaPlan
import Derived.Deep.DeepCutAuto
import Derived.Deep.RegionWith
import Derived.RegionTactic
import Derived.BigRegion

namespace Go.Hm
open Go Go.RowKit
theorem cols_more (l : List ColS) (c : ColS) : colsCk (l ++ [c]) = 0 ↔ colsCk [c] = 0 ∧ colsCk l = 0 ∧ c.1 ∉ l.map (·.1) ∧ l.length < 64 := by
  rw [colsCk_iff, colsCk_iff, colsCk_iff]
  unfold ColsOk
  simp only [List.length_append, List.length_cons, List.length_nil, List.mem_append, List.mem_cons, List.not_mem_nil, or_false, List.map_append, List.map_cons, List.map_nil, List.nodup_append, List.nodup_cons, not_false_eq_true, List.nodup_nil, and_self, and_true, true_and]
  constructor
  · rintro ⟨h1, h2, h3, h4⟩
    exact ⟨⟨by omega, fun x hx => h2 x (.inr hx)⟩, ⟨by omega, fun x hx => h2 x (.inl hx), h3⟩, fun hh => h4 _ hh _ rfl rfl, by omega⟩
  · rintro ⟨⟨_, h1⟩, ⟨_, h2, h3⟩, h4, h5⟩
    refine ⟨by omega, fun x hx => ?_, h3, fun a ha b hb => ?_⟩
    · rcases hx with hx | hx
      · exact h2 x hx
      · exact h1 x hx
    · subst hb
      exact fun e => h4 (e ▸ ha)

end Go.Hm

namespace Go.Proofs.Ytcnaameebbcmhaa
open Go.RowKit Go.Hm
theorem made3 (w : World) (e : TypeId) : (w.alloc (.cells #[] e)).ownsRow w.heap.size e 3 (.slice (some ⟨w.heap.size, 0, none⟩) 0 0) 0 [] :=
  World.ownsRow_made w #[] 0 (Nat.le_refl _) (Nat.zero_le _) rfl
theorem mk1_ (w : World) (o : Obj) : Below w.heap.size w.drew (w.alloc o).drew := ⟨rfl, rfl, rfl, by simp, fun k hk => Below.heap_alloc w o k hk⟩
theorem mkB_ {B : Nat} {w0 w : World} (_ : Below B w0 w) (o : Obj) (hB : B ≤ w.heap.size) : Below B w (w.alloc o) := (Below.refl _ _).alloc hB o
theorem rowB_ {B : Nat} {w w' w0 : World} {e : TypeId} {sz n : Nat} {v : Value} {xs : List Value} (h : w.ownsRow B e sz v n xs) (g : w.grownBy w' v.ownBlock) (b : Below B w0 w) (hB : B ≤ w0.heap.size) : Below B w w' :=
  (Below.refl _ _).grown g (Nat.le_trans hB b.size) (fun k hk => (World.ownsRow.lt h k hk).1)
set_option maxHeartbeats 4000000 in
set_option maxRecDepth 100000 in
theorem cellCols_walk {w : World} {A : Option Addr} {n c : Nat} {L : List ColS} {s : List Nat} {t : Int} {nu : Bool} (h : Reads w w.heap.size 3 A n (recs colV L)) (hL : ∀ x ∈ L, (∀ z ∈ x.1, z < 256) ∧ x.1.length ≤ 140737488351232) (hc : n ≤ c) (hn : n ≤ 4611686018427387903) (hs : (∀ z ∈ s, z < 256) ∧ s.length ≤ 140737488351232) :
    Calls Try.prog 8 #[.slice A n c, .agg #[.string (bstr s), .int .i64 t, .bool nu]] w (SmallPost w) := by
  obtain rfl := h.lenC
  obtain ⟨W0, hW0⟩ : ∃ W, W = w.alloc (.cells #[.string (bstr s), .int .i64 t, .bool nu] 27) := ⟨_, rfl⟩
  have b0 : New w W0 := by rw [hW0]; exact (Below.refl _ _).alloc (Nat.le_refl _) _
  have B0 : Blk W0 w.heap.size 27 #[.string (bstr s), .int .i64 t, .bool nu] := by rw [hW0]; exact Blk.new _ _ _
  have F := Lib.hid (fun (W : World) (hW : New W0 W) => ccells (B0.below hW B0.lt))
  have RL := Lib.hid (fun (W : World) (hW : New W0 W) => Reads.later h (New.trans b0 hW))
  have SM := Lib.hid (small07_any W0)
  have HW := Lib.hid hW0
  clear h B0 hW0
  go_enter Try.func8, Try.ntmps8
  go_wp2_with fail
  rw [← HW.out]
  refine SM.out.mono ?_
  rintro e w1 ⟨rfl, b1⟩
  clear SM HW
  by_cases h70 : 70 < L.length
  · have t1 : decide (70 < (L.length : Int)) = true := by simp; omega
    go_wp2
    go_ret
    exact ⟨rfl, New.trans b0 b1⟩
  have t1 : decide (70 < (L.length : Int)) = false := by simp; omega
  go_wp2
  clear t1
  go_loopw [6, 7] (fun v i wr => ∃ (k q : Nat) (bb : Bool), i = .int .i64 (k : Int) ∧ v = .bool bb ∧ k ≤ L.length ∧ wr = w1.drewN q ∧ Hid (bb = decide (s ∈ (L.take k).map (·.1)))) (fun _ i _ => L.length - (intOf i).toNat)
  case atStart => exact ⟨0, 0, false, rfl, rfl, by omega, rfl, Lib.hid (by simp)⟩
  case round =>
    obtain ⟨k, q, bb, rfl, rfl, hk, rfl, H⟩ := hrel
    by_cases hlt : k < L.length
    · obtain ⟨ad, rfl, _, d0, d1, d2⟩ := (RL.out w1 b1).colT hlt
      obtain ⟨x0, x1, x2⟩ := F.out w1 b1
      have MN := Lib.hid (mem_names (s := s) hlt)
      have hq := strB (nm L k) s (hL _ (by rw [List.getD_eq_getElem?_getD, List.getElem?_eq_getElem hlt]; exact List.getElem_mem hlt)).1 hs.1
      unfold nm at *
      generalize (L.getD k ([], 0, false)).1 = s2 at *
      have hiz : (k : Int) < (L.length : Int) := by omega
      obtain ⟨R, hR⟩ : ∃ R, R = decide (s2 = s) := ⟨_, rfl⟩
      rw [← hR] at hq
      have HN := Lib.hid (show (bb || R) = decide (s ∈ (L.take (k + 1)).map (·.1)) by
        rw [H.out, hR]
        by_cases g1 : s ∈ (L.take k).map (·.1) <;> by_cases g2 : s2 = s <;> simp only [g1, g2, MN.out, decide_true, decide_false, Bool.or_true, Bool.or_false, or_true, or_false] <;> simp)
      clear hR H MN d1 d2
      cases bb <;> cases R
      all_goals
        go_wp2
        go_quiet (fail)
        go_wp2
        go_roundw
        case rel => exact ⟨k + 1, _, _, by go_num, rfl, by omega, rfl, HN⟩
        case measure => simp [intOf]; omega
    · obtain rfl : k = L.length := by omega
      rw [List.take_length] at H
      have b1q : New W0 (w1.drewN q) := New.trans b1 (new_drewN _ q)
      generalize w1.drewN q = w2 at *
      have CM := Lib.hid (cols_more L (s, t, nu))
      have P1 := Lib.hid (fun (W : World) => cols_any (w := W.alloc (.cells #[.string (bstr s), .int .i64 t, .bool nu] 27)) (c := 1) (L := [(s, t, nu)]) (Reads.litR W _ _ 1 3 (recs colV [(s, t, nu)]) rfl rfl) (by intro x hx; obtain rfl := List.mem_singleton.1 hx; exact hs) (by omega) (by omega))
      have P2 := Lib.hid (fun (W : World) (hW : New W0 W) => cols_any (c := c) (RL.out W hW) hL hc hn)
      obtain ⟨x0, x1, x2⟩ := F.out w2 b1q
      generalize colsCk [(s, t, nu)] = q1 at *
      generalize colsCk L = q2 at *
      go_wp2_with fail
      refine (P1.out w2).mono ?_
      rintro e w3 ⟨rfl, b3⟩
      have b23 := New.alloc _ b3
      have b03 := New.trans b1q b23
      go_wp2_with fail
      refine (P2.out w3 b03).mono ?_
      rintro e w4 ⟨rfl, b4⟩
      have b04 := New.trans b03 b4
      clear x0 x1 x2 P1 P2 b3 b4 b23 b03 b1q
      obtain ⟨x0, x1, x2⟩ := F.out w4 b04
      go_upto_region 11 with fail
      have HLL := Lib.hid (show ∀ x ∈ L ++ [(s, t, nu)], (∀ z ∈ x.1, z < 256) ∧ x.1.length ≤ 140737488351232 by
        intro x hx
        rcases List.mem_append.1 hx with hx | hx
        · exact hL x hx
        · obtain rfl := List.mem_singleton.1 hx
          exact hs)
      have F4 := Lib.hid (fun (W : World) (hW : Below w4.heap.size w4.drew W) => F.out W (New.trans b04 (New.trans (New.drew w4) hW)))
      have R4 := Lib.hid (fun (W : World) (hW : Below w4.heap.size w4.drew W) => RL.out W (New.trans b04 (New.trans (New.drew w4) hW)))
      obtain ⟨X1, hX1⟩ : ∃ X, X = (q1 == 0) := ⟨_, rfl⟩
      obtain ⟨X2, hX2⟩ : ∃ X, X = (q2 == 0) := ⟨_, rfl⟩
      obtain ⟨X4, hX4⟩ : ∃ X, X = decide ((L.length : Int) < 64) := ⟨_, rfl⟩
      have CM := Lib.hid (show (colsCk (L ++ [(s, t, nu)]) == 0) = (X1 && (X2 && (!bb && X4))) by
        rw [hX1, hX2, hX4, H.out, Bool.eq_iff_iff]
        simp only [beq_iff_eq, Bool.and_eq_true, Bool.not_eq_true', decide_eq_false_iff_not, decide_eq_true_eq, CM.out]
        constructor
        · rintro ⟨a, b, c, d⟩; exact ⟨a, b, c, by omega⟩
        · rintro ⟨a, b, c, d⟩; exact ⟨a, b, c, by omega⟩)
      rw [← hX1, ← hX2]
      have HX4 := Lib.hid hX4
      clear hX1 hX2 hX4 H
      refine wp_region_plan (Below w4.heap.size) (.quiet 1 (.quiet 3 (.two 0 (.two 2 (.alone 4 (.alone 5 (.alone 6 (.quiet 7 (.quiet 8 .done))))) 4 (.alone 2 (.alone 5 (.alone 6 (.quiet 7 (.quiet 8 .done)))))) 4 (.alone 0 (.alone 2 (.alone 5 (.alone 6 (.quiet 7 (.quiet 8 .done)))))))))
        (fun w => Below.refl _ w) (fun h k => Below.trans h k) (by kernel_rfl) (by kernel_rfl) (by kernel_rfl) (by kernel_rfl) ?_
      iterate 2 (
        refine plan_quiet rfl rfl (v := ?_) (fun W hW => ?_) ?_
        rotate_left
        · obtain ⟨x0, x1, x2⟩ := F4.out W hW
          go_simp <;> with_reducible rfl
        simp only [Act.put, List.setIfInBounds_toArray, List.set_cons_zero, List.set_cons_succ])
      refine plan_two ?_ ?_
      · refine plan_op rfl rfl (fun K hK => ?_)
        go_simp
        refine hK _ _ (mk1_ w4 _) ?_
        clear hK
        obtain ⟨w5, hw5⟩ : ∃ W, W = (w4.alloc (.cells #[] 27)).drew := ⟨_, rfl⟩
        have b5 : New w4 w5 := by rw [hw5]; exact New.trans ((Below.refl _ _).alloc (Nat.le_refl _) _) (New.drew _)
        have M5 : w5.ownsRow w4.heap.size 27 3 (.slice (some ⟨w4.heap.size, 0, none⟩) 0 0) 0 [] := by rw [hw5]; exact made3 w4 _
        have f5 : Below w4.heap.size w4.drew w5 := ⟨b5.os, b5.tape, b5.output, b5.size, b5.block⟩
        rw [← hw5]
        clear hw5
        refine plan_two ?_ ?_
        · refine plan_op rfl rfl (fun K hK => ?_)
          refine wp_appR elCol7 (.tmp 40) (.tmp 41) rfl (W := w4) (B := w4.heap.size) M5 (R4.out w5 f5) rfl rfl b5 (Nat.le_refl _) b5.size (recs_one (by intro x u hu; simp [colV] at hu; rcases hu with rfl | rfl | rfl <;> rfl) _) (by omega) (by simp only [maxLen]; omega) ?_
          intro A6 c6 w6 _ _ u6 g6 b6
          rw [Nat.zero_add, List.nil_append] at u6
          rw [Nat.zero_add]
          refine hK _ _ (rowB_ M5 g6 b5 (Nat.le_refl _)) ?_
          clear hK
          refine plan_alone (plan_op rfl rfl (fun K hK => ?_))
          go_simp
          have b8 := mkB_ b6 (.cells #[.string (bstr s), .int .i64 t, .bool nu] 27) b6.size
          refine hK _ _ b8 ?_
          clear hK
          obtain ⟨w9, hw9⟩ : ∃ W, W = w6.alloc (.cells #[.string (bstr s), .int .i64 t, .bool nu] 27) := ⟨_, rfl⟩
          have b9 : New w4 w9 := by rw [hw9]; exact Below.trans b6 b8
          have r9 : Reads w9 w9.heap.size 3 (some ⟨w6.heap.size, 0, none⟩) 1 (recs colV [(s, t, nu)]) := by rw [hw9]; exact Reads.litR w6 _ _ 1 3 _ rfl rfl
          have u9 : w9.ownsRow w4.heap.size 27 3 (.slice A6 L.length c6) L.length (recs colV L) := by rw [hw9]; exact World.ownsRow.alloc u6 _
          rw [← hw9]
          clear hw9 u6 M5
          refine plan_alone (plan_op rfl rfl (fun K hK => ?_))
          refine wp_appR elCol7 (.tmp 42) (.tmp 44) rfl (W := w4) (B := w4.heap.size) u9 r9 rfl rfl b9 (Nat.le_refl _) b9.size (recs_one (by intro x u hu; simp [colV] at hu; rcases hu with rfl | rfl | rfl <;> rfl) _) (by omega) (by simp only [maxLen]; omega) ?_
          intro A10 c10 w10 hc10 _ u10 g10 b10
          rw [← recs_append] at u10
          refine hK _ _ (rowB_ u9 g10 b9 (Nat.le_refl _)) ?_
          clear hK
          have P3 := Lib.hid (cols_any (c := c10) (Reads.of_own u10) HLL.out hc10 (by omega))
          refine plan_alone (plan_op rfl rfl (fun K hK => ?_))
          go_simp
          refine P3.out.mono ?_
          rintro e w11 ⟨rfl, b11⟩
          refine hK _ _ (b11.mono b10.size) ?_
          clear hK P3
          have bend := New.trans b0 (New.trans b04 (New.trans (b10.mono (Nat.le_refl _)) b11))
          generalize hq3 : (colsCk (L ++ [(s, t, nu)]) == 0) = X3 at CM
          iterate 2 (
            refine plan_quiet rfl rfl (v := ?_) (fun W hW => ?_) ?_
            rotate_left
            · go_simp <;> with_reducible rfl
            simp only [Act.put, List.setIfInBounds_toArray, List.set_cons_zero, List.set_cons_succ])
          refine plan_done ?_
          clear hq3
          cases X1 <;> cases X2 <;> cases bb <;> cases X4
          all_goals
            have e3 := CM.out
            simp at e3
            have e4 := HX4.out.symm
            subst e3
            go_wp2
            go_ret
            exact ⟨by simp, bend⟩
        · refine plan_op rfl rfl (fun K hK => ?_)
          go_simp
          have b8 := mkB_ b5 (.cells #[.string (bstr s), .int .i64 t, .bool nu] 27) b5.size
          refine hK _ _ b8 ?_
          clear hK
          obtain ⟨w6, hw6⟩ : ∃ W, W = w5.alloc (.cells #[.string (bstr s), .int .i64 t, .bool nu] 27) := ⟨_, rfl⟩
          have b6 : New w4 w6 := by rw [hw6]; exact Below.trans b5 b8
          have f6 : Below w4.heap.size w4.drew w6 := ⟨b6.os, b6.tape, b6.output, b6.size, b6.block⟩
          have r6 : Reads w6 w6.heap.size 3 (some ⟨w5.heap.size, 0, none⟩) 1 (recs colV [(s, t, nu)]) := by rw [hw6]; exact Reads.litR w5 _ _ 1 3 _ rfl rfl
          have M6 : w6.ownsRow w4.heap.size 27 3 (.slice (some ⟨w4.heap.size, 0, none⟩) 0 0) 0 [] := by rw [hw6]; exact World.ownsRow.alloc M5 _
          have hz5 : w4.heap.size < w5.heap.size := (World.ownsRow.lt M5 _ rfl).2
          rw [← hw6]
          clear hw6 M5
          refine plan_alone (plan_op rfl rfl (fun K hK => ?_))
          refine wp_appR elCol7 (.tmp 40) (.tmp 41) rfl (W := w4) (B := w4.heap.size) M6 (R4.out w6 f6) rfl rfl b6 (Nat.le_refl _) b6.size (recs_one (by intro x u hu; simp [colV] at hu; rcases hu with rfl | rfl | rfl <;> rfl) _) (by omega) (by simp only [maxLen]; omega) ?_
          intro A7 c7 w9 _ _ u9 g7 b9
          rw [Nat.zero_add, List.nil_append] at u9
          rw [Nat.zero_add]
          refine hK _ _ (rowB_ M6 g7 b6 (Nat.le_refl _)) ?_
          clear hK
          have r9 := Reads.grown_far r6 g7 (fun ad g e1 e2 => by injection e1 with e1; subst e1; simp [Value.ownBlock] at e2; show w5.heap.size ≠ g; omega)
          clear r6 M6
          refine plan_alone (plan_op rfl rfl (fun K hK => ?_))
          refine wp_appR elCol7 (.tmp 42) (.tmp 44) rfl (W := w4) (B := w4.heap.size) u9 r9 rfl rfl b9 (Nat.le_refl _) b9.size (recs_one (by intro x u hu; simp [colV] at hu; rcases hu with rfl | rfl | rfl <;> rfl) _) (by omega) (by simp only [maxLen]; omega) ?_
          intro A10 c10 w10 hc10 _ u10 g10 b10
          rw [← recs_append] at u10
          refine hK _ _ (rowB_ u9 g10 b9 (Nat.le_refl _)) ?_
          clear hK
          have P3 := Lib.hid (cols_any (c := c10) (Reads.of_own u10) HLL.out hc10 (by omega))
          refine plan_alone (plan_op rfl rfl (fun K hK => ?_))
          go_simp
          refine P3.out.mono ?_
          rintro e w11 ⟨rfl, b11⟩
          refine hK _ _ (b11.mono b10.size) ?_
          clear hK P3
          have bend := New.trans b0 (New.trans b04 (New.trans (b10.mono (Nat.le_refl _)) b11))
          generalize hq3 : (colsCk (L ++ [(s, t, nu)]) == 0) = X3 at CM
          iterate 2 (
            refine plan_quiet rfl rfl (v := ?_) (fun W hW => ?_) ?_
            rotate_left
            · go_simp <;> with_reducible rfl
            simp only [Act.put, List.setIfInBounds_toArray, List.set_cons_zero, List.set_cons_succ])
          refine plan_done ?_
          clear hq3
          cases X1 <;> cases X2 <;> cases bb <;> cases X4
          all_goals
            have e3 := CM.out
            simp at e3
            have e4 := HX4.out.symm
            subst e3
            go_wp2
            go_ret
            exact ⟨by simp, bend⟩
      · refine plan_op rfl rfl (fun K hK => ?_)
        go_simp
        refine hK _ _ (mk1_ w4 _) ?_
        clear hK
        obtain ⟨w5, hw5⟩ : ∃ W, W = (w4.alloc (.cells #[.string (bstr s), .int .i64 t, .bool nu] 27)).drew := ⟨_, rfl⟩
        have b5 : New w4 w5 := by rw [hw5]; exact New.trans ((Below.refl _ _).alloc (Nat.le_refl _) _) (New.drew _)
        have r5 : Reads w5 w5.heap.size 3 (some ⟨w4.heap.size, 0, none⟩) 1 (recs colV [(s, t, nu)]) := by rw [hw5]; exact Reads.litR w4 _ _ 1 3 _ rfl rfl
        have hz5 : w4.heap.size < w5.heap.size := by rw [hw5]; show _ < (w4.alloc _).heap.size; simp
        rw [← hw5]
        clear hw5
        refine plan_alone (plan_op rfl rfl (fun K hK => ?_))
        go_simp
        have b8 := mkB_ b5 (.cells #[] 27) b5.size
        refine hK _ _ b8 ?_
        clear hK
        obtain ⟨w6, hw6⟩ : ∃ W, W = w5.alloc (.cells #[] 27) := ⟨_, rfl⟩
        have b6 : New w4 w6 := by rw [hw6]; exact Below.trans b5 b8
        have f6 : Below w4.heap.size w4.drew w6 := ⟨b6.os, b6.tape, b6.output, b6.size, b6.block⟩
        have M6 : w6.ownsRow w4.heap.size 27 3 (.slice (some ⟨w5.heap.size, 0, none⟩) 0 0) 0 [] := by rw [hw6]; exact row_base (made3 w5 _) b5.size
        have r6 := Reads.later r5 (show New w5 w6 by rw [hw6]; exact (Below.refl _ _).alloc (Nat.le_refl _) _)
        rw [← hw6]
        clear hw6 r5
        refine plan_alone (plan_op rfl rfl (fun K hK => ?_))
        refine wp_appR elCol7 (.tmp 40) (.tmp 41) rfl (W := w4) (B := w4.heap.size) M6 (R4.out w6 f6) rfl rfl b6 (Nat.le_refl _) b6.size (recs_one (by intro x u hu; simp [colV] at hu; rcases hu with rfl | rfl | rfl <;> rfl) _) (by omega) (by simp only [maxLen]; omega) ?_
        intro A7 c7 w9 _ _ u9 g7 b9
        rw [Nat.zero_add, List.nil_append] at u9
        rw [Nat.zero_add]
        refine hK _ _ (rowB_ M6 g7 b6 (Nat.le_refl _)) ?_
        clear hK
        have r9 := Reads.grown_far r6 g7 (fun ad g e1 e2 => by injection e1 with e1; subst e1; simp [Value.ownBlock] at e2; show w4.heap.size ≠ g; omega)
        clear r6 M6
        refine plan_alone (plan_op rfl rfl (fun K hK => ?_))
        refine wp_appR elCol7 (.tmp 42) (.tmp 44) rfl (W := w4) (B := w4.heap.size) u9 r9 rfl rfl b9 (Nat.le_refl _) b9.size (recs_one (by intro x u hu; simp [colV] at hu; rcases hu with rfl | rfl | rfl <;> rfl) _) (by omega) (by simp only [maxLen]; omega) ?_
        intro A10 c10 w10 hc10 _ u10 g10 b10
        rw [← recs_append] at u10
        refine hK _ _ (rowB_ u9 g10 b9 (Nat.le_refl _)) ?_
        clear hK
        have P3 := Lib.hid (cols_any (c := c10) (Reads.of_own u10) HLL.out hc10 (by omega))
        refine plan_alone (plan_op rfl rfl (fun K hK => ?_))
        go_simp
        refine P3.out.mono ?_
        rintro e w11 ⟨rfl, b11⟩
        refine hK _ _ (b11.mono b10.size) ?_
        clear hK P3
        have bend := New.trans b0 (New.trans b04 (New.trans (b10.mono (Nat.le_refl _)) b11))
        generalize hq3 : (colsCk (L ++ [(s, t, nu)]) == 0) = X3 at CM
        iterate 2 (
          refine plan_quiet rfl rfl (v := ?_) (fun W hW => ?_) ?_
          rotate_left
          · go_simp <;> with_reducible rfl
          simp only [Act.put, List.setIfInBounds_toArray, List.set_cons_zero, List.set_cons_succ])
        refine plan_done ?_
        clear hq3
        cases X1 <;> cases X2 <;> cases bb <;> cases X4
        all_goals
          have e3 := CM.out
          simp at e3
          have e4 := HX4.out.symm
          subst e3
          go_wp2
          go_ret
          exact ⟨by simp, bend⟩

set_option maxRecDepth 100000 in
open Go.WideShapes Go.ChangeShapes in
theorem cellCols_contract {H : Type} {enc : TypeId × Value → H} (W : World) (base : Nat) (args : Array Value) (ds : List (DataW H)) (ps : List MemPlace)
    (hval : ∀ (j : Nat) t v, Try.f8.params[j]? = some t → args[j]? = some v → Value.okWide Try.prog W .any base t v)
    (hA : DataW.TrodAll enc Try.prog W 0 (fun _ => true) true Try.f8.params.toList args.toList ds ps) (hlt : ∀ p ∈ ps, p.block < W.heap.size)
    (hsz : (DataW.weightsEach Try.prog Try.f8.params.toList ds).all (· ≤ reachBytes) = true) :
    Calls Try.prog 8 args W fun e W' => e = .returned (.bool true) ∧ Below W.heap.size W W' := by
  rw [Try.params8] at hA hval hsz
  obtain ⟨v0, v1, d0, d1, p0, p1, rfl, rfl, rfl, h0, h1⟩ := trodAll_two hA
  -- l: v0 d0 p0 h0, hval 0
  -- c: v1 d1 p1 h1, hval 1
  obtain ⟨A1, c1, l1, rfl, hc1, hm1, hr1, hl1⟩ := open_Cols (hval 0 _ _ rfl rfl) h0 (fun p hp => hlt p (by simp [hp])) (sized_at hsz (j := 0) rfl rfl)
  obtain ⟨⟨s, t, nu⟩, rfl, g1, g2, _⟩ := open_Col (hval 1 _ _ rfl rfl) h1 (fun p hp => hlt p (by simp [hp])) (sized_at hsz (j := 1) rfl rfl)
  exact cellCols_walk hr1 (fun x hx => ⟨(hl1 x hx).1, (hl1 x hx).2.1⟩) hc1 (by omega) ⟨g1, g2⟩

end Go.Proofs.Ytcnaameebbcmhaa
