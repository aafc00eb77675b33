/- Texts merged, for a claim has at most 60 files: Small22. -/
import Derived.Test.YtgfemjpeegbhhaaDoorBun8
/- The small case of layer 22. -/

namespace Go.Proofs.YtgfemjpeegbhhaaDoor
open Go.RowKit Go.Hm
theorem lit5_eq : (#[.int .u8 1, .int .u8 0, .int .u8 0, .int .u8 0, .int .u8 0, .int .u8 0, .int .u8 0, .int .u8 0, .int .u8 0, .int .u8 0, .int .u8 0, .int .u8 0, .int .u8 0, .int .u8 0, .int .u8 0, .int .u8 0, .int .u8 0, .int .u8 0, .int .u8 0, .int .u8 0, .int .u8 0, .int .u8 0, .int .u8 0, .int .u8 0, .int .u8 0, .int .u8 0, .int .u8 0, .int .u8 0, .int .u8 0, .int .u8 0, .int .u8 0, .int .u8 0, .int .u8 2, .int .u8 0, .int .u8 0, .int .u8 0, .int .u8 0, .int .u8 0, .int .u8 0, .int .u8 0, .int .u8 0, .int .u8 0, .int .u8 0, .int .u8 0, .int .u8 0, .int .u8 0, .int .u8 0, .int .u8 0, .int .u8 0, .int .u8 0, .int .u8 0, .int .u8 0, .int .u8 0, .int .u8 0, .int .u8 0, .int .u8 0, .int .u8 0, .int .u8 0, .int .u8 0, .int .u8 0, .int .u8 0, .int .u8 0, .int .u8 0, .int .u8 0, .int .u8 3, .int .u8 0, .int .u8 0, .int .u8 0, .int .u8 0, .int .u8 0, .int .u8 0, .int .u8 0, .int .u8 0, .int .u8 0, .int .u8 0, .int .u8 0, .int .u8 0, .int .u8 0, .int .u8 0, .int .u8 0, .int .u8 0, .int .u8 0, .int .u8 0, .int .u8 0, .int .u8 0, .int .u8 0, .int .u8 0, .int .u8 0, .int .u8 0, .int .u8 0, .int .u8 0, .int .u8 0, .int .u8 0, .int .u8 0, .int .u8 0, .int .u8 0, .int .u8 4, .int .u8 0, .int .u8 0, .int .u8 0, .int .u8 0, .int .u8 0, .int .u8 0, .int .u8 0, .int .u8 0, .int .u8 0, .int .u8 0, .int .u8 0, .int .u8 0, .int .u8 0, .int .u8 0, .int .u8 0, .int .u8 0, .int .u8 0, .int .u8 0, .int .u8 0, .int .u8 0, .int .u8 0, .int .u8 0, .int .u8 0, .int .u8 0, .int .u8 0, .int .u8 0, .int .u8 0, .int .u8 0, .int .u8 0, .int .u8 0, .int .u8 0, .int .u8 5, .int .u8 0, .int .u8 0, .int .u8 0, .int .u8 0, .int .u8 0, .int .u8 0, .int .u8 0, .int .u8 0, .int .u8 0, .int .u8 0, .int .u8 0, .int .u8 0, .int .u8 0, .int .u8 0, .int .u8 0, .int .u8 0, .int .u8 0, .int .u8 0, .int .u8 0, .int .u8 0, .int .u8 0, .int .u8 0, .int .u8 0, .int .u8 0, .int .u8 0, .int .u8 0, .int .u8 0, .int .u8 0, .int .u8 0, .int .u8 0, .int .u8 0] : Array Value) = (recs digC lv5).toArray := by rfl
theorem zero_agg : dV (List.replicate 32 0) = .agg (ints .u8 zero32).toArray := rfl
set_option maxHeartbeats 8000000 in
set_option maxRecDepth 100000 in
theorem small22_any (w : World) (hC : ConstIn w) : Calls Tryd.prog 30 #[] w (NewPost (.bool true) w) := by
  have HC := Lib.hid hC
  clear hC
  go_enter Tryd.func30, Tryd.ntmps30
  go_wp2_with fail
  refine new_any.mono ?_
  rintro e w1 ⟨rfl, rfl⟩
  have l1 := LogOf.made w w.heap.size
  obtain ⟨w1, hw1⟩ : ∃ W, W = w.alloc (.cells #[.slice none 0 0] 62) := ⟨_, rfl⟩
  have b1 : New w w1 := by rw [hw1]; exact new_alloc2 _ _
  rw [← hw1] at l1
  rw [← hw1]
  obtain ⟨g, hg⟩ : ∃ g, g = w.heap.size := ⟨_, rfl⟩
  rw [← hg] at l1 ⊢
  have hgw : w.heap.size ≤ g := by omega
  have S1 := Lib.hid (show LogN w g 0 w1 from ⟨[], ⟨_, by rw [← hg]; exact l1, b1⟩, Nat.le_refl _⟩)
  clear hw1 b1 l1 hg
  obtain ⟨b, hb⟩ : ∃ b, b = w1.heap.size := ⟨_, rfl⟩
  obtain ⟨w2, hw2⟩ : ∃ W, W = w1.alloc (.cells #[.int .u8 1, .int .u8 0, .int .u8 0, .int .u8 0, .int .u8 0, .int .u8 0, .int .u8 0, .int .u8 0, .int .u8 0, .int .u8 0, .int .u8 0, .int .u8 0, .int .u8 0, .int .u8 0, .int .u8 0, .int .u8 0, .int .u8 0, .int .u8 0, .int .u8 0, .int .u8 0, .int .u8 0, .int .u8 0, .int .u8 0, .int .u8 0, .int .u8 0, .int .u8 0, .int .u8 0, .int .u8 0, .int .u8 0, .int .u8 0, .int .u8 0, .int .u8 0, .int .u8 2, .int .u8 0, .int .u8 0, .int .u8 0, .int .u8 0, .int .u8 0, .int .u8 0, .int .u8 0, .int .u8 0, .int .u8 0, .int .u8 0, .int .u8 0, .int .u8 0, .int .u8 0, .int .u8 0, .int .u8 0, .int .u8 0, .int .u8 0, .int .u8 0, .int .u8 0, .int .u8 0, .int .u8 0, .int .u8 0, .int .u8 0, .int .u8 0, .int .u8 0, .int .u8 0, .int .u8 0, .int .u8 0, .int .u8 0, .int .u8 0, .int .u8 0, .int .u8 3, .int .u8 0, .int .u8 0, .int .u8 0, .int .u8 0, .int .u8 0, .int .u8 0, .int .u8 0, .int .u8 0, .int .u8 0, .int .u8 0, .int .u8 0, .int .u8 0, .int .u8 0, .int .u8 0, .int .u8 0, .int .u8 0, .int .u8 0, .int .u8 0, .int .u8 0, .int .u8 0, .int .u8 0, .int .u8 0, .int .u8 0, .int .u8 0, .int .u8 0, .int .u8 0, .int .u8 0, .int .u8 0, .int .u8 0, .int .u8 0, .int .u8 0, .int .u8 4, .int .u8 0, .int .u8 0, .int .u8 0, .int .u8 0, .int .u8 0, .int .u8 0, .int .u8 0, .int .u8 0, .int .u8 0, .int .u8 0, .int .u8 0, .int .u8 0, .int .u8 0, .int .u8 0, .int .u8 0, .int .u8 0, .int .u8 0, .int .u8 0, .int .u8 0, .int .u8 0, .int .u8 0, .int .u8 0, .int .u8 0, .int .u8 0, .int .u8 0, .int .u8 0, .int .u8 0, .int .u8 0, .int .u8 0, .int .u8 0, .int .u8 0, .int .u8 5, .int .u8 0, .int .u8 0, .int .u8 0, .int .u8 0, .int .u8 0, .int .u8 0, .int .u8 0, .int .u8 0, .int .u8 0, .int .u8 0, .int .u8 0, .int .u8 0, .int .u8 0, .int .u8 0, .int .u8 0, .int .u8 0, .int .u8 0, .int .u8 0, .int .u8 0, .int .u8 0, .int .u8 0, .int .u8 0, .int .u8 0, .int .u8 0, .int .u8 0, .int .u8 0, .int .u8 0, .int .u8 0, .int .u8 0, .int .u8 0, .int .u8 0] 32) := ⟨_, rfl⟩
  have n12 : New w1 w2 := by rw [hw2]; exact new_alloc2 _ _
  have S2 := Lib.hid (S1.out.new n12)
  have D2 := Lib.hid (show DigsIn w w2 (some ⟨b, 0, none⟩) lv5 by rw [hw2, hb]; exact DigsIn.lit digs5 (Blk.new _ _ _) lit5_eq)
  have HW2 := Lib.hid hw2
  have HB := Lib.hid hb
  have P1 := Lib.hid (prove_n hgw HC.out S2.out 1 2 D2.out (c := 5) (by decide) (by omega) (by decide))
  obtain ⟨x, hx⟩ := prov_12
  obtain ⟨P, hP⟩ : ∃ P, P = provP lv5 1 2 := ⟨_, rfl⟩
  rw [← hP] at hx P1
  have HP := Lib.hid hP
  have HX := Lib.hid hx
  have lP : P.length = 3 := by rw [hx]; rfl
  clear hw2 hb n12 S1 hx hP
  rw [show lv5.length = 5 from rfl] at P1
  obtain ⟨cr, er, ir, zr, or_, -⟩ := dV_agg (rootD_dig lv5 digs5)
  obtain ⟨cz, ez, iz, zz, oz, -⟩ := dV_agg (rootD_dig [] (fun _ h => nomatch h))
  have ER := Lib.hid er
  have IR := Lib.hid ir
  have ZR := Lib.hid zr
  have OR := Lib.hid or_
  have EZ := Lib.hid ez
  have IZ := Lib.hid iz
  have ZZ := Lib.hid zz
  have OZ := Lib.hid oz
  clear er ir zr or_ ez iz zz oz
  go_wp2_with fail
  rw [← HW2.out, ← HB.out]
  (with_reducible refine P1.out.mono ?_)
  rintro e w3 ⟨A1, c1, rfl, hc1, hcm1, d1, s3, k3⟩
  rw [lP] at hc1 ⊢
  have d3 := D2.out.keep k3
  have J1 := Lib.hid (show Calls Tryd.prog 34 #[.pointer (some ⟨g, 0, none⟩), .int .i64 5, .int .i64 1, .slice (some ⟨b, 32, none⟩) 1 4, .slice A1 3 c1] w3 (NPost (.tuple #[.agg cr, .bool true]) w g 16 w3) from by
    have := join_n hgw HC.out s3 5 1 (A := some ⟨b, 32, none⟩) (c := 4) (P := sl lv5 1 2) (R := P) (d3.sl (lo := 1) (hi := 2) (c := 5) (by omega) (by decide) (by decide)) (by decide) (by omega) d1 (by omega) hcm1 (by decide) (by omega) (by omega) (v := .agg cr) (b := true) (by rw [HP.out]; exact (congrArg dV join_12.2).trans ER.out) (by rw [HP.out]; exact join_12.1)
    rw [lP] at this
    exact this)
  have D3 := Lib.hid d3
  have D1 := Lib.hid d1
  clear d3 d1 s3 k3 S2 D2 HW2 HB P1
  go_wp2_with fail
  (with_reducible refine J1.out.mono ?_)
  rintro e w4 ⟨rfl, s4, k4⟩
  have n4 := new_alloc2 w4 (.cells cr tD)
  have S5 := Lib.hid (s4.new n4)
  have D5 := Lib.hid ((D3.out.keep k4).keep (KeepC.new n4))
  have E5 := Lib.hid ((D1.out.keep k4).keep (KeepC.new n4))
  have G5 := Lib.hid (Blk.new w4 tD cr)
  clear s4 k4 n4 D3 D1 J1
  go_upto_region 7 with (refine wpList_store_row rfl 32 (.tmp 4) (.tmp 30) rfl w4.heap.size cr rfl rfl _ _ (heap_alloc_new _ _) IR.out ZR.out OR.out ?_; rw [alloc_setRow])
  obtain ⟨w5, hw5⟩ : ∃ W, W = w4.alloc (.cells cr 32) := ⟨_, rfl⟩
  rw [← hw5] at S5 D5 E5 G5 ⊢
  generalize w4.heap.size = b4 at *
  clear hw5
  obtain ⟨c0, hc0⟩ : ∃ c, c = (ints .u8 zero32).toArray := ⟨_, rfl⟩
  have I0 : Hid ((Tryd.prog.info? 32).map (·.size) = some c0.size) := Lib.hid (by rw [hc0]; exact i32d rfl)
  have O0 : Hid (c0.all (·.oneCell') = true) := Lib.hid (by rw [hc0]; exact ints_one .u8 zero32)
  have HC0 := Lib.hid hc0
  have J2 := Lib.hid (fun (W : World) (hs : LogN w g 16 W) (k : KeepC w5 W) => show Calls Tryd.prog 34 #[.pointer (some ⟨g, 0, none⟩), .int .i64 5, .int .i64 1, .slice (some ⟨b, 32, none⟩) 1 4, .slice A1 2 c1] W (NPost (.tuple #[.agg c0, .bool false]) w g 27 W) from by
    have lt : (P.take 2).length = 2 := by rw [List.length_take]; omega
    have jn := join_no lt
    have := join_n hgw HC.out hs 5 1 (A := some ⟨b, 32, none⟩) (c := 4) (P := sl lv5 1 2) (R := P.take 2) ((D5.out.keep k).sl (lo := 1) (hi := 2) (c := 5) (by omega) (by decide) (by decide)) (by decide) (by omega) ((E5.out.keep k).take (by omega)) (c2 := c1) (by omega) hcm1 (by decide) (by omega) (by omega) (v := .agg c0) (b := false) (by rw [HC0.out]; exact congrArg dV jn.2) jn.1
    rw [lt] at this
    exact this)
  clear hc0
  go_cut [7] (fun s7 wx => s7 = .bool false ∧ Hid (LogN w g 27 wx) ∧ Hid (KeepC w5 wx))
  case first =>
    refine wp_region_plan (fun _ _ => True) (.quiet 0 (.quiet 1 (.quiet 2 (.quiet 3 (.quiet 4 (.quiet 5 (.quiet 6 (.quiet 7 (.two 8 (.quiet 9 (.quiet 10 (.quiet 11 (.alone 12 (.alone 13 (.quiet 14 .done)))))) 12 (.alone 8 (.quiet 9 (.quiet 10 (.quiet 11 (.alone 13 (.quiet 14 .done)))))))))))))))
      (fun _ => trivial) (fun _ _ => trivial) (by kernel_rfl) (by kernel_rfl) (by kernel_rfl) (by kernel_rfl) ?_
    have S6 := S5.out.new (New.drew w5)
    have K6 : KeepC w5 w5.drew := KeepC.new (New.drew w5)
    obtain ⟨u0, hu0⟩ : ∃ W, W = w5.drew := ⟨_, rfl⟩
    rw [← hu0] at S6 K6 ⊢
    have Z0 : Hid ((#[.int .u8 0, .int .u8 0, .int .u8 0, .int .u8 0, .int .u8 0, .int .u8 0, .int .u8 0, .int .u8 0, .int .u8 0, .int .u8 0, .int .u8 0, .int .u8 0, .int .u8 0, .int .u8 0, .int .u8 0, .int .u8 0, .int .u8 0, .int .u8 0, .int .u8 0, .int .u8 0, .int .u8 0, .int .u8 0, .int .u8 0, .int .u8 0, .int .u8 0, .int .u8 0, .int .u8 0, .int .u8 0, .int .u8 0, .int .u8 0, .int .u8 0, .int .u8 0] : Array Value).size = c0.size) := Lib.hid (by rw [HC0.out]; rfl)
    have hw5 : w.heap.size ≤ w5.heap.size := S5.out.news.size
    have hu5 : w5.heap.size ≤ u0.heap.size := K6.1
    clear hu0
    have SLH := fun W => dslice_h A1 3 c1 2 (by omega) W
    iterate 7 (
      refine plan_quiet rfl rfl (v := ?_) (fun W' hW => ?_) ?_
      rotate_left
      · go_simp <;> with_reducible rfl
      simp only [Act.put, List.setIfInBounds_toArray, List.set_cons_zero, List.set_cons_succ])
    refine plan_quiet rfl rfl (v := .slice A1 2 c1) (fun W' hW => exec_slice (SLH W')) ?_
    simp only [Act.put, List.setIfInBounds_toArray, List.set_cons_zero, List.set_cons_succ]
    refine plan_two ?_ ?_
    · refine plan_op rfl rfl (fun K hK => ?_)
      go_simp
      (with_reducible refine (J2.out _ S6 K6).mono ?_)
      rintro e w6 ⟨rfl, s6, k6⟩
      refine hK _ _ trivial ?_
      clear hK
      iterate 3 (
        refine plan_quiet rfl rfl (v := ?_) (fun W' hW => ?_) ?_
        rotate_left
        · go_simp <;> with_reducible rfl
        simp only [Act.put, List.setIfInBounds_toArray, List.set_cons_zero, List.set_cons_succ])

      refine plan_alone (plan_op rfl rfl (fun K hK => ?_))
      go_simp
      refine hK _ _ trivial ?_
      clear hK
      have n7 := new_alloc2 w6 (.cells #[.int .u8 0, .int .u8 0, .int .u8 0, .int .u8 0, .int .u8 0, .int .u8 0, .int .u8 0, .int .u8 0, .int .u8 0, .int .u8 0, .int .u8 0, .int .u8 0, .int .u8 0, .int .u8 0, .int .u8 0, .int .u8 0, .int .u8 0, .int .u8 0, .int .u8 0, .int .u8 0, .int .u8 0, .int .u8 0, .int .u8 0, .int .u8 0, .int .u8 0, .int .u8 0, .int .u8 0, .int .u8 0, .int .u8 0, .int .u8 0, .int .u8 0, .int .u8 0] 32)
      have G7 := Blk.new w6 32 #[.int .u8 0, .int .u8 0, .int .u8 0, .int .u8 0, .int .u8 0, .int .u8 0, .int .u8 0, .int .u8 0, .int .u8 0, .int .u8 0, .int .u8 0, .int .u8 0, .int .u8 0, .int .u8 0, .int .u8 0, .int .u8 0, .int .u8 0, .int .u8 0, .int .u8 0, .int .u8 0, .int .u8 0, .int .u8 0, .int .u8 0, .int .u8 0, .int .u8 0, .int .u8 0, .int .u8 0, .int .u8 0, .int .u8 0, .int .u8 0, .int .u8 0, .int .u8 0]
      have hw6 : w5.heap.size ≤ w6.heap.size := Nat.le_trans hu5 k6.1
      have FS := Lib.hid (Lib.hid ((s6.new n7).set_ G7 (Nat.le_trans hw5 hw6) c0))
      have FK := Lib.hid (Lib.hid (((K6.trans k6).trans (KeepC.new n7)).set_ hw6 c0))
      refine plan_alone (plan_op rfl rfl (fun K hK => ?_))
      refine wp_store_row 32 (.tmp 6) (.tmp 42) rfl w6.heap.size c0 rfl rfl _ _ (row_of_blk G7) I0.out Z0.out O0.out ?_
      refine hK _ _ trivial ?_
      clear hK
      refine plan_quiet rfl rfl (v := ?_) (fun W' hW => ?_) ?_
      rotate_left
      · go_simp <;> with_reducible rfl
      simp only [Act.put, List.setIfInBounds_toArray, List.set_cons_zero, List.set_cons_succ]
      refine plan_done ?_
      go_wp2_with fail
      go_meet
      exact ⟨rfl, FS.out, FK.out⟩
    · refine plan_op rfl rfl (fun K hK => ?_)
      go_simp
      refine hK _ _ trivial ?_
      clear hK
      have n7 := new_alloc2 u0 (.cells #[.int .u8 0, .int .u8 0, .int .u8 0, .int .u8 0, .int .u8 0, .int .u8 0, .int .u8 0, .int .u8 0, .int .u8 0, .int .u8 0, .int .u8 0, .int .u8 0, .int .u8 0, .int .u8 0, .int .u8 0, .int .u8 0, .int .u8 0, .int .u8 0, .int .u8 0, .int .u8 0, .int .u8 0, .int .u8 0, .int .u8 0, .int .u8 0, .int .u8 0, .int .u8 0, .int .u8 0, .int .u8 0, .int .u8 0, .int .u8 0, .int .u8 0, .int .u8 0] 32)
      have G7 := Blk.new u0 32 #[.int .u8 0, .int .u8 0, .int .u8 0, .int .u8 0, .int .u8 0, .int .u8 0, .int .u8 0, .int .u8 0, .int .u8 0, .int .u8 0, .int .u8 0, .int .u8 0, .int .u8 0, .int .u8 0, .int .u8 0, .int .u8 0, .int .u8 0, .int .u8 0, .int .u8 0, .int .u8 0, .int .u8 0, .int .u8 0, .int .u8 0, .int .u8 0, .int .u8 0, .int .u8 0, .int .u8 0, .int .u8 0, .int .u8 0, .int .u8 0, .int .u8 0, .int .u8 0]
      refine plan_alone (plan_op rfl rfl (fun K hK => ?_))
      go_simp
      (with_reducible refine (J2.out _ (S6.new n7) (K6.trans (KeepC.new n7))).mono ?_)
      rintro e w6 ⟨rfl, s6, k6⟩
      refine hK _ _ trivial ?_
      clear hK
      have G6 := k6.2 _ _ _ (by decide) (by decide) G7
      have FS := Lib.hid (Lib.hid (s6.set_ G6 (Nat.le_trans hw5 hu5) c0))
      have FK := Lib.hid (Lib.hid (((K6.trans (KeepC.new n7)).trans k6).set_ hu5 c0))
      iterate 3 (
        refine plan_quiet rfl rfl (v := ?_) (fun W' hW => ?_) ?_
        rotate_left
        · go_simp <;> with_reducible rfl
        simp only [Act.put, List.setIfInBounds_toArray, List.set_cons_zero, List.set_cons_succ])
      refine plan_alone (plan_op rfl rfl (fun K hK => ?_))
      refine wp_store_row 32 (.tmp 6) (.tmp 42) rfl u0.heap.size c0 rfl rfl _ _ (row_of_blk G6) I0.out Z0.out O0.out ?_
      refine hK _ _ trivial ?_
      clear hK
      refine plan_quiet rfl rfl (v := ?_) (fun W' hW => ?_) ?_
      rotate_left
      · go_simp <;> with_reducible rfl
      simp only [Act.put, List.setIfInBounds_toArray, List.set_cons_zero, List.set_cons_succ]
      refine plan_done ?_
      go_wp2_with fail
      go_meet
      exact ⟨rfl, FS.out, FK.out⟩
  case rest =>
    obtain ⟨rfl, s9, k9⟩ := hcut
    have S9 := Lib.hid s9.out
    have D9 := Lib.hid (D5.out.keep k9.out)
    have E9 := Lib.hid (E5.out.keep k9.out)
    have G9 := Lib.hid (k9.out.2 _ _ _ (by decide) (by decide) G5.out)
    clear s9 k9 S5 D5 E5 G5 J2
    have P2 := prove_n hgw HC.out S9.out 2 2 D9.out (c := 5) (by decide) (by omega) (by decide)
    rw [show lv5.length = 5 from rfl] at P2
    have P2 := Lib.hid P2
    go_wp2_with fail
    (with_reducible refine P2.out.mono ?_)
    rintro e w10 ⟨A2, c2, rfl, hc2, hcm2, d10, s10, k10⟩
    have J3 := Lib.hid (show Calls Tryd.prog 34 #[.pointer (some ⟨g, 0, none⟩), .int .i64 5, .int .i64 2, .slice none 0 0, .slice A2 (provP lv5 2 2).length c2] w10 (NPost (.tuple #[.agg cr, .bool true]) w g 43 w10) from
      join_n hgw HC.out s10 5 2 (A := none) (c := 0) (P := []) (DigsIn.nil _ _) (by decide) (by omega) d10 hc2 hcm2 (by decide) (by omega) (by omega) (v := .agg cr) (b := true) ((congrArg dV join_22.2).trans ER.out) join_22.1)
    have D10 := Lib.hid (D9.out.keep k10)
    have E10 := Lib.hid (E9.out.keep k10)
    have G10 := Lib.hid (k10.2 _ _ _ (by decide) (by decide) G9.out)
    generalize (provP lv5 2 2).length = n2 at *
    clear d10 s10 k10 S9 D9 E9 G9 P2
    go_wp2_with fail
    (with_reducible refine J3.out.mono ?_)
    rintro e w11 ⟨rfl, s11, k11⟩
    have n11 := new_alloc2 w11 (.cells cr tD)
    have s12 := s11.new n11
    have J4 := Lib.hid (show Calls Tryd.prog 34 #[.pointer (some ⟨g, 0, none⟩), .int .i64 0, .int .i64 0, .slice none 0 0, .slice none 0 0] (w11.alloc (.cells cr tD)) (NPost (.tuple #[.agg cz, .bool true]) w g 44 (w11.alloc (.cells cr tD))) from
      join_n hgw HC.out s12 0 0 (A := none) (c := 0) (P := []) (DigsIn.nil _ _) (by decide) (by omega) (A2 := none) (c2 := 0) (R := []) (DigsIn.nil _ _) (by decide) (by omega) (by decide) (by omega) (by omega) (v := .agg cz) (b := true) ((congrArg dV join_00.2).trans EZ.out) join_00.1)
    have k12 := k11.trans (KeepC.new n11)
    have D12 := Lib.hid (D10.out.keep k12)
    have E12 := Lib.hid (E10.out.keep k12)
    have G12 := Lib.hid (k12.2 _ _ _ (by decide) (by decide) G10.out)
    have H12 := Lib.hid (Blk.new w11 tD cr)
    clear s11 k11 n11 s12 k12 J3 D10 E10 G10
    go_wp2_with (first
      | (refine wpList_store_row rfl 32 (.tmp 8) (.tmp 50) rfl w11.heap.size cr rfl rfl _ _ (heap_alloc_new _ _) IR.out ZR.out OR.out ?_; rw [alloc_setRow])
      | fail)
    generalize w11.heap.size = b8 at *
    (with_reducible refine J4.out.mono ?_)
    rintro e w13 ⟨rfl, s13, k13⟩
    have n13 := new_alloc2 w13 (.cells cz tD)
    have S14 := Lib.hid (s13.new n13)
    have k14 := k13.trans (KeepC.new n13)
    have D14 := Lib.hid (D12.out.keep k14)
    have E14 := Lib.hid (E12.out.keep k14)
    have G14 := Lib.hid (k14.2 _ _ _ (by decide) (by decide) G12.out)
    have H14 := Lib.hid (k14.2 _ _ _ (by decide) (by decide) H12.out)
    have I14 := Lib.hid (Blk.new w13 tD cz)
    clear s13 k13 n13 k14 J4 D12 E12 G12 H12
    go_wp2_with (first
      | (refine wpList_store_row rfl 32 (.tmp 10) (.tmp 55) rfl w13.heap.size cz rfl rfl _ _ (heap_alloc_new _ _) IZ.out ZZ.out OZ.out ?_; rw [alloc_setRow])
      | fail)
    obtain ⟨w14, hw14⟩ : ∃ W, W = w13.alloc (.cells cz 32) := ⟨_, rfl⟩
    rw [← hw14] at S14 D14 E14 G14 H14 I14 ⊢
    generalize w13.heap.size = b10 at *
    clear hw14
    refine wp_region_up (KeepB w) ord22 (KeepB.refl w) KeepB.trans (by kernel_rfl) (by kernel_rfl) (by kernel_rfl) ok22 ?_
    unfold ord22
    have FG := Lib.hid (fun (W : World) (k : KeepB w w14 W) => k.1.2 _ _ _ (by decide) (by decide) G14.out)
    have FH := Lib.hid (fun (W : World) (k : KeepB w w14 W) => k.1.2 _ _ _ (by decide) (by decide) H14.out)
    have FI := Lib.hid (fun (W : World) (k : KeepB w w14 W) => k.1.2 _ _ _ (by decide) (by decide) I14.out)
    obtain ⟨a0, e0, q0⟩ := D14.out.at_ (i := 0) S14.out.news (by decide)
    injection e0 with e0
    subst e0
    obtain ⟨a4, e4, q4⟩ := D14.out.at_ (i := 4) S14.out.news (by decide)
    injection e4 with e4
    subst e4
    obtain ⟨ad, rfl, p0⟩ := E14.out.at_ (i := 0) S14.out.news (by omega)
    obtain ⟨ad2, e2, p2⟩ := E14.out.at_ (i := 2) S14.out.news (by omega)
    injection e2 with e2
    subst e2
    rw [show P.getD 0 [] = dgt 1 by rw [HX.out]; rfl] at p0
    rw [show P.getD 2 [] = dgt 5 by rw [HX.out]; rfl] at p2
    rw [show lv5.getD 0 [] = dgt 1 from rfl] at q0
    rw [show lv5.getD 4 [] = dgt 5 from rfl] at q4
    have FA := Lib.hid q0
    have FB := Lib.hid q4
    have FC := Lib.hid p0
    have FD := Lib.hid p2
    have I1 := Lib.hid (i32L (dgt_dig (i := 1) (by omega)).1)
    have I5 := Lib.hid (i32L (dgt_dig (i := 5) (by omega)).1)
    have EQ1 := Lib.hid (fun (W : World) => show (binOp .eql 32 (.agg (nums .u8 (dgt 1)).toArray) (.agg (nums .u8 (dgt 1)).toArray)).run Tryd.prog W = .ok (.bool true) W from by have := eqDV (dgt_dig (i := 1) (by omega)) (dgt_dig (i := 1) (by omega)) W; rwa [decide_eq_true rfl] at this)
    have EQ5 := Lib.hid (fun (W : World) => show (binOp .eql 32 (.agg (nums .u8 (dgt 5)).toArray) (.agg (nums .u8 (dgt 5)).toArray)).run Tryd.prog W = .ok (.bool true) W from by have := eqDV (dgt_dig (i := 5) (by omega)) (dgt_dig (i := 5) (by omega)) W; rwa [decide_eq_true rfl] at this)
    have EQR := Lib.hid (fun (W : World) => show (binOp .eql 32 (.agg cr) (.agg cr)).run Tryd.prog W = .ok (.bool true) W from by rw [← ER.out]; have := eqDV (rootD_dig lv5 digs5) (rootD_dig lv5 digs5) W; rwa [decide_eq_true rfl] at this)
    have EQZ := Lib.hid (fun (W : World) => show (binOp .eql 32 (.agg cz) (.agg cz)).run Tryd.prog W = .ok (.bool true) W from by rw [← EZ.out]; have := eqDV (rootD_dig [] (fun _ h => nomatch h)) (rootD_dig [] (fun _ h => nomatch h)) W; rwa [decide_eq_true rfl] at this)
    have R5 := Lib.hid (fun (W : World) (hs : LogN w g 44 W) (k : KeepB w w14 W) => show Calls Tryd.prog 19 #[.pointer (some ⟨g, 0, none⟩), .slice (some ⟨b, 0, none⟩) 5 5] W (NPost (.agg cr) w g 50 W) from root_n hgw HC.out hs (D14.out.keep k.1) (c := 5) (by decide) (by omega) (by decide) ER.out)
    have R0 := Lib.hid (fun (W : World) (hs : LogN w g 50 W) (_ : KeepB w w14 W) => show Calls Tryd.prog 19 #[.pointer (some ⟨g, 0, none⟩), .slice none 0 0] W (NPost (.agg cz) w g 51 W) from root_n hgw HC.out hs (DigsIn.nil _ _) (c := 0) (by decide) (by omega) (by decide) EZ.out)
    have N1 := Lib.hid (fun (W : World) => show Calls Tryd.prog 31 #[.int .i64 5, .int .i64 1, .int .i64 2] W (NewPost (.int .i64 3) W) from by have := need_any 5 1 2 W (by omega) (by omega); rwa [need_512] at this)
    have N2 := Lib.hid (fun (W : World) => show Calls Tryd.prog 31 #[.int .i64 5, .int .i64 0, .int .i64 5] W (NewPost (.int .i64 0) W) from by have := need_any 5 0 5 W (by omega) (by omega); rwa [need_505] at this)
    have N3 := Lib.hid (fun (W : World) => show Calls Tryd.prog 31 #[.int .i64 5, .int .i64 3, .int .i64 2] W (NewPost (.int .i64 (-1)) W) from by have := need_any 5 3 2 W (by omega) (by omega); rwa [need_532] at this)
    have N4 := Lib.hid (fun (W : World) => show Calls Tryd.prog 31 #[.int .i64 5, .int .i64 2, .int .i64 2] W (NewPost (.int .i64 1) W) from by have := need_any 5 2 2 W (by omega) (by omega); rwa [need_522] at this)
    have DK : (Tryd.prog).eqGuardType (Tryd.prog).depth 32 = false := by kernel_rfl
    have DK := Lib.hid DK
    have hT := KeepB.new S14.out.news (New.drew w14)
    have hS := S14.out.new (New.drew w14)
    obtain ⟨u0, hu0⟩ : ∃ W, W = w14.drew := ⟨_, rfl⟩
    rw [← hu0] at hT hS ⊢
    clear hu0 q0 q4 p0 p2
    iterate 2 (
      refine up_quiet rfl rfl (v := ?_) (fun W hW => ?_) ?_
      rotate_left
      · go_simp <;> with_reducible rfl
      simp only [Act.put, List.setIfInBounds_toArray, List.set_cons_zero, List.set_cons_succ])
    refine up_quiet rfl rfl (v := .bool true) (fun W hW => by go_simp) ?_
    simp only [Act.put, List.setIfInBounds_toArray, List.set_cons_zero, List.set_cons_succ]
    iterate 3 (
      refine up_quiet rfl rfl (v := ?_) (fun W hW => ?_) ?_
      rotate_left
      · go_simp <;> with_reducible rfl
      simp only [Act.put, List.setIfInBounds_toArray, List.set_cons_zero, List.set_cons_succ])
    refine up_quiet rfl rfl (v := .agg (nums .u8 (dgt 1)).toArray) (fun W hW => exec_load_at rfl (FC.out W (hT.trans hW)) digarr rfl I1.out) ?_
    simp only [Act.put, List.setIfInBounds_toArray, List.set_cons_zero, List.set_cons_succ]
    iterate 2 (
      refine up_quiet rfl rfl (v := ?_) (fun W hW => ?_) ?_
      rotate_left
      · go_simp <;> with_reducible rfl
      simp only [Act.put, List.setIfInBounds_toArray, List.set_cons_zero, List.set_cons_succ])
    refine up_quiet rfl rfl (v := .agg (nums .u8 (dgt 1)).toArray) (fun W hW => exec_load_at rfl (FA.out W (hT.trans hW)) digarr rfl I1.out) ?_
    simp only [Act.put, List.setIfInBounds_toArray, List.set_cons_zero, List.set_cons_succ]
    refine up_quiet rfl rfl (v := .bool true) (fun W hW => exec_agg rfl rfl DK.out (EQ1.out W)) ?_
    simp only [Act.put, List.setIfInBounds_toArray, List.set_cons_zero, List.set_cons_succ]
    iterate 4 (
      refine up_quiet rfl rfl (v := ?_) (fun W hW => ?_) ?_
      rotate_left
      · go_simp <;> with_reducible rfl
      simp only [Act.put, List.setIfInBounds_toArray, List.set_cons_zero, List.set_cons_succ])
    refine up_quiet rfl rfl (v := .agg (nums .u8 (dgt 5)).toArray) (fun W hW => exec_load_at rfl (FD.out W (hT.trans hW)) digarr rfl I5.out) ?_
    simp only [Act.put, List.setIfInBounds_toArray, List.set_cons_zero, List.set_cons_succ]
    iterate 2 (
      refine up_quiet rfl rfl (v := ?_) (fun W hW => ?_) ?_
      rotate_left
      · go_simp <;> with_reducible rfl
      simp only [Act.put, List.setIfInBounds_toArray, List.set_cons_zero, List.set_cons_succ])
    refine up_quiet rfl rfl (v := .agg (nums .u8 (dgt 5)).toArray) (fun W hW => exec_load_at rfl (FB.out W (hT.trans hW)) digarr rfl I5.out) ?_
    simp only [Act.put, List.setIfInBounds_toArray, List.set_cons_zero, List.set_cons_succ]
    refine up_quiet rfl rfl (v := .bool true) (fun W hW => exec_agg rfl rfl DK.out (EQ5.out W)) ?_
    simp only [Act.put, List.setIfInBounds_toArray, List.set_cons_zero, List.set_cons_succ]
    iterate 5 (
      refine up_quiet rfl rfl (v := ?_) (fun W hW => ?_) ?_
      rotate_left
      · go_simp <;> with_reducible rfl
      simp only [Act.put, List.setIfInBounds_toArray, List.set_cons_zero, List.set_cons_succ])
    refine up_quiet rfl rfl (v := .agg cr) (fun W hW => exec_load_row rfl (FG.out W (hT.trans hW)) digarr rfl IR.out) ?_
    simp only [Act.put, List.setIfInBounds_toArray, List.set_cons_zero, List.set_cons_succ]
    iterate 2 (
      refine up_quiet rfl rfl (v := ?_) (fun W hW => ?_) ?_
      rotate_left
      · go_simp <;> with_reducible rfl
      simp only [Act.put, List.setIfInBounds_toArray, List.set_cons_zero, List.set_cons_succ])
    refine up_call rfl rfl (fun K hK => ?_)
    go_simp
    (with_reducible refine (R5.out _ hS hT).mono ?_)
    rintro e u1 ⟨rfl, s', k'⟩
    have kb := KeepB.log hS.news s'.news k'
    refine hK _ _ kb ?_
    clear hK
    replace hT := hT.trans kb
    replace hS := s'
    clear kb k'
    refine up_quiet rfl rfl (v := .bool true) (fun W hW => exec_agg rfl rfl DK.out (EQR.out W)) ?_
    simp only [Act.put, List.setIfInBounds_toArray, List.set_cons_zero, List.set_cons_succ]
    iterate 9 (
      refine up_quiet rfl rfl (v := ?_) (fun W hW => ?_) ?_
      rotate_left
      · go_simp <;> with_reducible rfl
      simp only [Act.put, List.setIfInBounds_toArray, List.set_cons_zero, List.set_cons_succ])
    refine up_quiet rfl rfl (v := .agg cr) (fun W hW => exec_load_row rfl (FH.out W (hT.trans hW)) digarr rfl IR.out) ?_
    simp only [Act.put, List.setIfInBounds_toArray, List.set_cons_zero, List.set_cons_succ]
    refine up_quiet rfl rfl (v := .agg cr) (fun W hW => exec_load_row rfl (FG.out W (hT.trans hW)) digarr rfl IR.out) ?_
    simp only [Act.put, List.setIfInBounds_toArray, List.set_cons_zero, List.set_cons_succ]
    refine up_quiet rfl rfl (v := .bool true) (fun W hW => exec_agg rfl rfl DK.out (EQR.out W)) ?_
    simp only [Act.put, List.setIfInBounds_toArray, List.set_cons_zero, List.set_cons_succ]
    iterate 5 (
      refine up_quiet rfl rfl (v := ?_) (fun W hW => ?_) ?_
      rotate_left
      · go_simp <;> with_reducible rfl
      simp only [Act.put, List.setIfInBounds_toArray, List.set_cons_zero, List.set_cons_succ])
    refine up_quiet rfl rfl (v := .agg cz) (fun W hW => exec_load_row rfl (FI.out W (hT.trans hW)) digarr rfl IZ.out) ?_
    simp only [Act.put, List.setIfInBounds_toArray, List.set_cons_zero, List.set_cons_succ]
    iterate 1 (
      refine up_quiet rfl rfl (v := ?_) (fun W hW => ?_) ?_
      rotate_left
      · go_simp <;> with_reducible rfl
      simp only [Act.put, List.setIfInBounds_toArray, List.set_cons_zero, List.set_cons_succ])
    refine up_call rfl rfl (fun K hK => ?_)
    go_simp
    (with_reducible refine (R0.out _ hS hT).mono ?_)
    rintro e u2 ⟨rfl, s', k'⟩
    have kb := KeepB.log hS.news s'.news k'
    refine hK _ _ kb ?_
    clear hK
    replace hT := hT.trans kb
    replace hS := s'
    clear kb k'
    refine up_quiet rfl rfl (v := .bool true) (fun W hW => exec_agg rfl rfl DK.out (EQZ.out W)) ?_
    simp only [Act.put, List.setIfInBounds_toArray, List.set_cons_zero, List.set_cons_succ]
    iterate 2 (
      refine up_quiet rfl rfl (v := ?_) (fun W hW => ?_) ?_
      rotate_left
      · go_simp <;> with_reducible rfl
      simp only [Act.put, List.setIfInBounds_toArray, List.set_cons_zero, List.set_cons_succ])
    refine up_call rfl rfl (fun K hK => ?_)
    go_simp
    (with_reducible refine (N1.out _).mono ?_)
    rintro e u3 ⟨rfl, b'⟩
    have kb := KeepB.new hS.news b'
    refine hK _ _ kb ?_
    clear hK
    replace hT := hT.trans kb
    replace hS := hS.new b'
    clear kb b'
    refine up_quiet rfl rfl (v := .bool true) (fun W hW => by go_simp) ?_
    simp only [Act.put, List.setIfInBounds_toArray, List.set_cons_zero, List.set_cons_succ]
    iterate 2 (
      refine up_quiet rfl rfl (v := ?_) (fun W hW => ?_) ?_
      rotate_left
      · go_simp <;> with_reducible rfl
      simp only [Act.put, List.setIfInBounds_toArray, List.set_cons_zero, List.set_cons_succ])
    refine up_call rfl rfl (fun K hK => ?_)
    go_simp
    (with_reducible refine (N2.out _).mono ?_)
    rintro e u4 ⟨rfl, b'⟩
    have kb := KeepB.new hS.news b'
    refine hK _ _ kb ?_
    clear hK
    replace hT := hT.trans kb
    replace hS := hS.new b'
    clear kb b'
    refine up_quiet rfl rfl (v := .bool true) (fun W hW => by go_simp) ?_
    simp only [Act.put, List.setIfInBounds_toArray, List.set_cons_zero, List.set_cons_succ]
    iterate 2 (
      refine up_quiet rfl rfl (v := ?_) (fun W hW => ?_) ?_
      rotate_left
      · go_simp <;> with_reducible rfl
      simp only [Act.put, List.setIfInBounds_toArray, List.set_cons_zero, List.set_cons_succ])
    refine up_call rfl rfl (fun K hK => ?_)
    go_simp
    (with_reducible refine (N3.out _).mono ?_)
    rintro e u5 ⟨rfl, b'⟩
    have kb := KeepB.new hS.news b'
    refine hK _ _ kb ?_
    clear hK
    replace hT := hT.trans kb
    replace hS := hS.new b'
    clear kb b'
    refine up_quiet rfl rfl (v := .bool true) (fun W hW => by go_simp) ?_
    simp only [Act.put, List.setIfInBounds_toArray, List.set_cons_zero, List.set_cons_succ]
    iterate 2 (
      refine up_quiet rfl rfl (v := ?_) (fun W hW => ?_) ?_
      rotate_left
      · go_simp <;> with_reducible rfl
      simp only [Act.put, List.setIfInBounds_toArray, List.set_cons_zero, List.set_cons_succ])
    refine up_call rfl rfl (fun K hK => ?_)
    go_simp
    (with_reducible refine (N4.out _).mono ?_)
    rintro e u6 ⟨rfl, b'⟩
    have kb := KeepB.new hS.news b'
    refine hK _ _ kb ?_
    clear hK
    replace hT := hT.trans kb
    replace hS := hS.new b'
    clear kb b'
    refine up_quiet rfl rfl (v := .bool true) (fun W hW => by go_simp) ?_
    simp only [Act.put, List.setIfInBounds_toArray, List.set_cons_zero, List.set_cons_succ]
    iterate 2 (
      refine up_quiet rfl rfl (v := ?_) (fun W hW => ?_) ?_
      rotate_left
      · go_simp <;> with_reducible rfl
      simp only [Act.put, List.setIfInBounds_toArray, List.set_cons_zero, List.set_cons_succ])
    refine up_nil ?_
    have BE := Lib.hid hS.news
    go_wp2
    go_ret
    exact ⟨rfl, BE.out⟩

end Go.Proofs.YtgfemjpeegbhhaaDoor
