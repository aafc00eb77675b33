/- ProofSound returns true whatever comes in, and leaves all that was there as it was. -/
import Derived.Test.YtgfemjpeegbhhaaDoorBun9

namespace Go.Proofs.YtgfemjpeegbhhaaDoor
open Go.RowKit Go.Hm
theorem joinOk_is {n : Nat} {f : Int} {P R : List (List Nat)} (hP : P.length ≤ 1000000) (h : joinOk (n : Int) f P R = true) : 0 ≤ f ∧ f + (P.length : Nat) ≤ (n : Int) ∧ n ≤ 65536 ∧ cnt (evs f.toNat (f.toNat + P.length) 0 n) = R.length := by
  unfold joinOk at h
  have h := of_decide_eq_true h
  unfold needI at h
  split at h
  · omega
  · rename_i hh
    have e : joinT f P = f + (P.length : Nat) := by
      unfold joinT at hh ⊢
      rw [IntKind.wrap_i64] at hh ⊢
      omega
    rw [e] at h hh
    rw [show (f + (P.length : Nat)).toNat = f.toNat + P.length by omega, Int.toNat_natCast] at h
    exact ⟨by omega, by omega, by omega, by exact_mod_cast h⟩
theorem goodF_node {a b : List Nat} (ha : DigN a) (hb : DigN b) : GoodF [frameL nodeTag [a, b]] := fun f hf => by
  obtain rfl := List.mem_singleton.1 hf
  exact node_good ha hb _ frame_node
/-- What was joined is a digest; its frames are good ones; joined to a root it is some of the leaves, or two frames have one digest. -/
theorem join_told {L P R : List (List Nat)} {f : Nat} (hL : Digs L) (hP : Digs P) (hR : Digs R) (hf : f + P.length ≤ L.length) (hc : cnt (evs f (f + P.length) 0 L.length) = R.length) :
    ∃ d F, jrun P f ⟨[], R, []⟩ (evs f (f + P.length) 0 L.length) = ⟨[d], R.drop (cnt (evs f (f + P.length) 0 L.length)), F⟩ ∧ DigN d ∧ GoodF F ∧
      (d = (rootD L).1 → P = sl L f (f + P.length) ∨ ∃ x ∈ (rootD L).2, ∃ y ∈ F, x ≠ y ∧ sumI x = sumI y) := by
  obtain ⟨d, F, e, h1, h2⟩ := join_sound (L := L) (P := P) (f := f) hL hP hf ⟨[], R, []⟩ hR (by rw [hc]; exact Nat.le_refl _)
  obtain ⟨d', F', e', x⟩ := jrun_evs (P := P) (f := f) (t := f + P.length) (X := fun lo hi R d F => Digs R → cnt (evs f (f + P.length) lo hi) ≤ R.length → DigN d ∧ GoodF F)
    (fun lo hi R _ _ _ _ => ⟨rootD_dig _ (hP.sl _ _), rootD_good (hP.sl _ _)⟩)
    (fun lo hi R _ h hb hR hc => by
      rw [evs_beside h hb] at hc
      have h0 : 0 < R.length := by
        have : cnt [Ev.beside lo hi] = 1 := rfl
        omega
      exact ⟨hR _ (mem_getD h0), fun _ h => nomatch h⟩)
    (by
      intro lo hi k R a b Fa Fb hn hk k1 k2 h hb x1 x2 hR hc
      rw [cnt_node (by omega) h hb, ← hk] at hc
      obtain ⟨d1, g1⟩ := x1 hR (by omega)
      obtain ⟨d2, g2⟩ := x2 (hR.drop _) (by rw [List.length_drop]; omega)
      exact ⟨hashN_dig _ _, GoodF.app (GoodF.app g1 g2) (goodF_node d1 d2)⟩) 0 L.length (Nat.zero_le _) ⟨[], R, []⟩
  obtain ⟨_, g⟩ := x hR (by rw [hc]; exact Nat.le_refl _)
  rw [e] at e'
  injection e' with _ _ e3
  simp only [List.nil_append] at e3
  subst e3
  exact ⟨d, F, by simpa using e, h1, g, h2⟩
set_option maxHeartbeats 8000000 in
set_option maxRecDepth 100000 in
theorem proofSound_walk {w : World} {A B C : Option Addr} {c c2 c3 : Nat} {L P R : List (List Nat)} (f : Int) (f1 : f ≤ 9223372036854775807) (hR : Reads w w.heap.size 32 A L.length (recs digC L)) (hD : Digs L) (hc : L.length ≤ c) (hcm : c ≤ 9223372036854775807)
    (kR : Reads w w.heap.size 32 B P.length (recs digC P)) (kD : Digs P) (kc : P.length ≤ c2) (kcm : c2 ≤ 9223372036854775807)
    (rR : Reads w w.heap.size 32 C R.length (recs digC R)) (rD : Digs R) (rc : R.length ≤ c3) (rcm : c3 ≤ 9223372036854775807) (hC : ConstIn w) :
    Calls Tryd.prog 11 #[.slice A L.length c, .int .i64 f, .slice B P.length c2, .slice C R.length c3] w (SmallPost w) := by
  have SM := Lib.hid (small22_any w hC)
  have HR := Lib.hid hR
  have HD := Lib.hid hD
  have KR := Lib.hid kR
  have KD := Lib.hid kD
  have RR := Lib.hid rR
  have RD := Lib.hid rD
  have HC := Lib.hid hC
  clear hR hD hC kR kD rR rD
  go_enter Tryd.func11, Tryd.ntmps11
  go_wp2_with fail
  refine SM.out.mono ?_
  rintro e w1 ⟨rfl, b1⟩
  have B1 := Lib.hid b1
  clear SM b1
  go_wp2_with fail
  refine new_any.mono ?_
  rintro e w2 ⟨rfl, rfl⟩
  go_wp2_with fail
  refine new_any.mono ?_
  rintro e w3 ⟨rfl, rfl⟩
  have l1 := (LogOf.made w1 w.heap.size).new (new_alloc2 _ (.cells #[.slice none 0 0] 62))
  have l2 := LogOf.made (w1.alloc (.cells #[.slice none 0 0] 62)) w.heap.size
  have hz : (w1.alloc (.cells #[.slice none 0 0] 62)).heap.size = w1.heap.size + 1 := by simp
  rw [hz] at l2
  obtain ⟨w3, hw3⟩ : ∃ W, W = (w1.alloc (.cells #[.slice none 0 0] 62)).alloc (.cells #[.slice none 0 0] 62) := ⟨_, rfl⟩
  have b3 : New w w3 := by rw [hw3]; exact New.trans B1.out (New.trans (new_alloc2 _ _) (new_alloc2 _ _))
  rw [← hw3] at l1 l2
  rw [← hw3, hz]
  have hgw : w.heap.size ≤ w1.heap.size := B1.out.size
  generalize w1.heap.size = g at *
  have B3 := Lib.hid b3
  have L1 := Lib.hid l1
  have L2 := Lib.hid l2
  clear hw3 hz B1 b3 l1 l2
  by_cases h3 : 40 < L.length
  · have d3 : decide ((40 : Int) < (L.length : Int)) = true := decide_eq_true (by omega)
    go_wp2
    go_ret
    exact ⟨rfl, B3.out⟩
  have d3 : decide ((40 : Int) < (L.length : Int)) = false := decide_eq_false (by omega)
  by_cases h4 : 40 < P.length
  · have d4 : decide ((40 : Int) < (P.length : Int)) = true := decide_eq_true (by omega)
    go_wp2
    go_ret
    exact ⟨rfl, B3.out⟩
  have d4 : decide ((40 : Int) < (P.length : Int)) = false := decide_eq_false (by omega)
  by_cases h5 : 60 < R.length
  · have d5 : decide ((60 : Int) < (R.length : Int)) = true := decide_eq_true (by omega)
    go_wp2
    go_ret
    exact ⟨rfl, B3.out⟩
  have d5 : decide ((60 : Int) < (R.length : Int)) = false := decide_eq_false (by omega)
  have own := L1.out.own (B := w.heap.size) (Nat.le_refl _) hgw
  have own2 := L2.out.own (B := w.heap.size) (Nat.le_refl _) (by omega)
  have RT := Lib.hid (root_any (L.length + 1) (by omega) L1.out B3.out.size (by simp; omega) (leafIn_of HR.out HD.out B3.out own) hc hcm (fun w' t => HC.out.turn2 B3.out t own))
  obtain ⟨ca, ea, ia, za, oa, -⟩ := dV_agg (rootD_dig L HD.out)
  rw [ea] at RT
  have EA := Lib.hid ea
  have Ia := Lib.hid ia
  have Za := Lib.hid za
  have Oa := Lib.hid oa
  have OWN := Lib.hid own
  have OWN2 := Lib.hid own2
  clear own own2 ea ia za oa
  go_wp2_with fail
  (with_reducible refine RT.out.mono ?_)
  rintro e w4 ⟨rfl, V4, l4, _, t4⟩
  rw [List.nil_append] at l4
  have m4 := L2.out.beside (by decide) (by decide) (by decide) L1.out (by omega) (by simp [rowT, Value.ownBlock]) t4
  have b4 := Turns.below B3.out t4 OWN.out (Nat.le_refl _)
  have B4 := Lib.hid b4
  have L4 := Lib.hid l4
  have M4 := Lib.hid m4
  clear RT l4 m4 b4 t4 L1 L2 B3 d3
  go_wp2_with (refine wpList_store_row rfl 32 (.tmp 12) (.tmp 55) rfl w4.heap.size ca rfl rfl _ _ (heap_alloc_new _ _) Ia.out Za.out Oa.out ?_; rw [alloc_setRow])
  obtain ⟨w5, hw5⟩ : ∃ W, W = w4.alloc (.cells ca 32) := ⟨_, rfl⟩
  have n5 : New w4 w5 := by rw [hw5]; exact new_alloc2 _ _
  have GA := Lib.hid (show Blk w5 w4.heap.size 32 ca by rw [hw5]; exact Blk.new _ _ _)
  rw [← hw5]
  generalize w4.heap.size = ba at *
  have L5 := Lib.hid (L4.out.new n5)
  have M5 := Lib.hid (M4.out.new n5)
  have B5 := Lib.hid (New.trans B4.out n5)
  have JT := join_any (L.length : Nat) f M5.out B5.out.size (by simp; omega) (leafIn_of KR.out KD.out B5.out OWN2.out) kc kcm (leafIn_of RR.out RD.out B5.out OWN2.out) rc rcm (by omega) (by omega) f1 (fun w' t => HC.out.turn2 B5.out t OWN2.out)
  have JI := Lib.hid (@joinOk_is L.length f P R (by omega))
  have hjd : DigN (joinD (L.length : Nat) f P R) := by
    unfold joinD
    split
    · rename_i ho
      obtain ⟨q1, q2, q3, q4⟩ := JI.out ho
      obtain ⟨d, F, e, hd, -⟩ := join_told (f := f.toNat) HD.out KD.out RD.out (by omega) q4
      unfold joinS
      rw [Int.toNat_natCast, e]
      exact hd
    · exact zero_dig
  have hjf : (joinF (L.length : Nat) f P R).length ≤ 1000 := by have := joinF_len2 L.length 40 f R KD.out (by omega); omega
  have JTell := Lib.hid (fun (ho : joinOk (L.length : Nat) f P R = true) (hq : joinD (L.length : Nat) f P R = (rootD L).1) => show GoodF (joinF (L.length : Nat) f P R) ∧ (P = sl L f.toNat (f.toNat + P.length) ∨ ∃ x ∈ (rootD L).2, ∃ y ∈ joinF (L.length : Nat) f P R, x ≠ y ∧ sumI x = sumI y) from by
    obtain ⟨q1, q2, q3, q4⟩ := JI.out ho
    obtain ⟨d, F, e, hd, hg, ht⟩ := join_told (f := f.toNat) HD.out KD.out RD.out (by omega) q4
    have e1 : joinD (L.length : Nat) f P R = d := by unfold joinD; rw [ho, if_pos rfl]; unfold joinS; rw [Int.toNat_natCast, e]; rfl
    have e2 : joinF (L.length : Nat) f P R = F := by unfold joinF; rw [ho, if_pos rfl]; unfold joinS; rw [Int.toNat_natCast, e]
    rw [e2]
    exact ⟨hg, ht (e1.symm.trans hq)⟩)
  obtain ⟨ok, hok⟩ : ∃ b, b = joinOk (L.length : Nat) f P R := ⟨_, rfl⟩
  obtain ⟨jd, hjd'⟩ : ∃ b, b = joinD (L.length : Nat) f P R := ⟨_, rfl⟩
  obtain ⟨jf, hjf'⟩ : ∃ b, b = joinF (L.length : Nat) f P R := ⟨_, rfl⟩
  rw [← hok] at JT JI JTell
  rw [← hjd'] at JT JTell hjd
  rw [← hjf'] at JT JTell hjf
  clear hok hjd' hjf'
  obtain ⟨cb, eb, ib, zb, ob, -⟩ := dV_agg hjd
  have EQ := fun W => eqDV hjd (rootD_dig L HD.out) W
  rw [EA.out, eb] at EQ
  have EQ := Lib.hid EQ
  rw [eb] at JT
  have JT := Lib.hid JT
  have Ib := Lib.hid ib
  have Zb := Lib.hid zb
  have Ob := Lib.hid ob
  clear hw5 n5 L4 M4 B4 eb ib zb ob
  (with_reducible refine JT.out.mono ?_)
  rintro e w6 ⟨rfl, V6, m6, _, t6⟩
  rw [List.nil_append] at m6
  have l6 := L5.out.beside (by decide) (by decide) (by decide) M5.out (by omega) (by simp [rowT, Value.ownBlock]) t6
  have b6 := Turns.below B5.out t6 OWN2.out (Nat.le_refl _)
  have ga6 := GA.out.touch t6 (M5.out.notT GA.out (by decide) (by decide))
  have B6 := Lib.hid b6
  have L6 := Lib.hid l6
  have M6 := Lib.hid m6
  have GA6 := Lib.hid ga6
  clear JT l6 m6 b6 t6 ga6 L5 M5 B5 GA
  have n7 := new_alloc2 w6 (.cells cb 32)
  have HG := Lib.hid (And.intro (row_of_blk (GA6.out.below n7 GA6.out.lt)) (row_of_blk (Blk.new w6 32 cb)))
  have GA7 := Lib.hid (GA6.out.below n7 GA6.out.lt)
  have GB7 := Lib.hid (Blk.new w6 32 cb)
  have L7 := Lib.hid (L6.out.new n7)
  have M7 := Lib.hid (M6.out.new n7)
  have B7 := Lib.hid (New.trans B6.out n7)
  have EQ2 := fun W => run_neq_agg (EQ.out W)
  cases ok with
  | false =>
    clear n7 JI JTell EQ2
    go_wp2_with (refine wpList_store_row rfl 32 (.tmp 13) (.tmp 64) rfl w6.heap.size cb rfl rfl _ _ (heap_alloc_new _ _) Ib.out Zb.out Ob.out ?_; rw [alloc_setRow])
    go_ret
    exact ⟨rfl, B7.out⟩
  | true =>
    by_cases hq : jd = (rootD L).1
    rotate_left
    · rw [decide_eq_false hq] at EQ2
      clear n7 JI JTell hq
      go_wp2_with (first
        | (refine wpList_store_row rfl 32 (.tmp 13) (.tmp 64) rfl w6.heap.size cb rfl rfl _ _ (heap_alloc_new _ _) Ib.out Zb.out Ob.out ?_; rw [alloc_setRow])
        | (refine wpList_loadD rfl (.tmp 13) rfl w6.heap.size cb rfl GB7.out Ib.out ?_)
        | (refine wpList_loadD rfl (.tmp 12) rfl ba ca rfl GA7.out Ia.out ?_))
      go_ret
      exact ⟨rfl, B7.out⟩
    rw [decide_eq_true hq] at EQ2
    obtain ⟨q1, q2, q3, -⟩ := JI.out rfl
    obtain ⟨GE, TE⟩ := JTell.out rfl hq
    obtain ⟨f, rfl⟩ : ∃ m : Nat, f = (m : Int) := ⟨f.toNat, by omega⟩
    rw [Int.toNat_natCast] at TE
    have d6 : decide ((f : Int) < 0) = false := decide_eq_false (by omega)
    have d7 : decide (L.length < f) = false := decide_eq_false (by omega)
    have d8 : decide ((L.length : Int) - (f : Int) < (P.length : Int)) = false := decide_eq_false (by omega)
    have hfl : f + P.length ≤ L.length := by omega
    have GE := Lib.hid GE
    have TE := Lib.hid TE
    clear n7 JI JTell hq q1 q2 q3
    obtain ⟨w7, hw7⟩ : ∃ W, W = w6.alloc (.cells cb 32) := ⟨_, rfl⟩
    rw [← hw7] at HG GA7 GB7 L7 M7 B7
    have HW7 := Lib.hid hw7
    clear hw7
    go_wp2_with (first
        | (refine wpList_store_row rfl 32 (.tmp 13) (.tmp 64) rfl w6.heap.size cb rfl rfl _ _ (heap_alloc_new _ _) Ib.out Zb.out Ob.out ?_; rw [alloc_setRow])
        | (refine wpList_loadD rfl (.tmp 13) rfl w6.heap.size cb rfl (by rw [← HW7.out]; exact GB7.out) Ib.out ?_)
        | (refine wpList_loadD rfl (.tmp 12) rfl ba ca rfl (by rw [← HW7.out]; exact GA7.out) Ia.out ?_))
    rw [← HW7.out]
    generalize w6.heap.size = bb at *
    obtain ⟨M, hM⟩ : ∃ M, M = sl L f (f + P.length) := ⟨_, rfl⟩
    have hMl : M.length = P.length := by rw [hM, sl_len hfl]; omega
    have HMg := Lib.hid (fun (k : Nat) (hk : k < P.length) => show M.getD k [] = L.getD (f + k) [] by
      rw [hM]
      unfold sl
      simp only [List.getD_eq_getElem?_getD, List.getElem?_take, List.getElem?_drop]
      rw [if_pos (by omega)])
    rw [← hM] at TE
    have HMl := Lib.hid hMl
    have LA := Lib.hid (leafIn_of HR.out HD.out (Below.refl _ w) (T := []) (by simp))
    have LB := Lib.hid (leafIn_of KR.out KD.out (Below.refl _ w) (T := []) (by simp))
    clear HW7 HG L6 M6 B6 GA6 Za Zb Oa Ob HR KR hM hMl RR RD d4 d5 d6 d7 d8 OWN OWN2
    have DK : (Tryd.prog).eqGuardType (Tryd.prog).depth 32 = false := by kernel_rfl
    have DK := Lib.hid DK
    go_loopw [15, 16] (fun s i wr => ∃ k : Nat, k ≤ P.length ∧ s = .bool (decide (P.take k = M.take k)) ∧ i = .int .i64 (k : Int) ∧ Hid (New w7 wr)) (fun _ i _ => P.length - (intOf i).toNat)
    case atStart => exact ⟨0, by omega, by simp, rfl, Lib.hid (Below.refl _ _)⟩
    case round =>
      obtain ⟨k, hk, rfl, rfl, b7⟩ := hrel
      by_cases hlt : k < P.length
      · obtain ⟨ad, rfl, ha⟩ := LB.out.at_ hlt
        obtain ⟨bd, rfl, hb⟩ := LA.out.at_ (i := f + k) (by omega)
        have DX := Lib.hid (Digs.at_ KD.out hlt)
        have DY := Lib.hid (Digs.at_ (k := f + k) HD.out (by omega))
        have TD := take_dec (L := P) (M := M) hlt (by rw [HMl.out]; exact hlt)
        rw [HMg.out k hlt] at TD
        have TD := Lib.hid TD
        have EXY := Lib.hid (fun W => eqDV DX.out DY.out W)
        have HA := Lib.hid ha
        have HB := Lib.hid hb
        have b := Lib.hid (New.trans B7.out b7.out)
        have wfk : IntKind.i64.wrap ((f : Int) + (k : Int)) = (f : Int) + (k : Int) := wrapI_is _ ⟨by omega, by omega⟩
        have kb2 : (f : Int) + (k : Int) < (L.length : Int) := by omega
        have kb3 : (0 : Int) ≤ (f : Int) + (k : Int) := by omega
        have kt : ((f : Int) + (k : Int)).toNat = f + k := by omega
        clear ha hb
        generalize P.getD k [] = x at *
        generalize L.getD (f + k) [] = y at *
        generalize decide (P.take k = M.take k) = sb at *
        cases sb with
        | true =>
          go_wp2
          refine wp_region_up New [(true, 0), (true, 1), (true, 2), (true, 3), (true, 4), (true, 5), (true, 6), (true, 7), (true, 8), (true, 9), (true, 10), (true, 11), (true, 12), (true, 13), (true, 14)]
            New.refl New.trans (by kernel_rfl) (by kernel_rfl) (by kernel_rfl) (by kernel_rfl) ?_
          have hU := New.drew wr
          iterate 5 (
            refine up_quiet rfl rfl (v := ?_) (fun W hW => ?_) ?_
            rotate_left
            · go_simp <;> with_reducible rfl
            simp only [Act.put, List.setIfInBounds_toArray, List.set_cons_zero, List.set_cons_succ])
          refine up_quiet rfl rfl (v := .agg (nums .u8 x).toArray) (fun W hW => exec_load_at rfl (HA.out W (New.trans b.out (New.trans hU hW))) digarr rfl (i32L DX.out.1)) ?_
          simp only [Act.put, List.setIfInBounds_toArray, List.set_cons_zero, List.set_cons_succ]
          iterate 5 (
            refine up_quiet rfl rfl (v := ?_) (fun W hW => ?_) ?_
            rotate_left
            · go_simp <;> with_reducible rfl
            simp only [Act.put, List.setIfInBounds_toArray, List.set_cons_zero, List.set_cons_succ])
          refine up_quiet rfl rfl (v := .agg (nums .u8 y).toArray) (fun W hW => exec_load_at rfl (HB.out W (New.trans b.out (New.trans hU hW))) digarr rfl (i32L DY.out.1)) ?_
          simp only [Act.put, List.setIfInBounds_toArray, List.set_cons_zero, List.set_cons_succ]
          refine up_quiet rfl rfl (v := .bool (decide (x = y))) (fun W hW => exec_agg rfl rfl DK.out (EXY.out W)) ?_
          simp only [Act.put, List.setIfInBounds_toArray, List.set_cons_zero, List.set_cons_succ]
          iterate 2 (
            refine up_quiet rfl rfl (v := ?_) (fun W hW => ?_) ?_
            rotate_left
            · go_simp <;> with_reducible rfl
            simp only [Act.put, List.setIfInBounds_toArray, List.set_cons_zero, List.set_cons_succ])
          refine up_nil ?_
          have BE := Lib.hid (New.trans b7.out hU)
          clear HA HB EXY DX DY b wfk kb2 kb3 kt
          go_wp2
          go_roundw
          case rel => exact ⟨k + 1, by omega, by rw [TD.out, Bool.true_and], by go_num, BE⟩
          case measure => simp [intOf]; omega
        | false =>
          go_wp2
          refine wp_region_up New [(true, 0), (true, 1), (true, 2), (true, 3), (true, 4), (true, 5), (true, 6), (true, 7), (true, 8), (true, 9), (true, 10), (true, 11), (true, 12), (true, 13), (true, 14)]
            New.refl New.trans (by kernel_rfl) (by kernel_rfl) (by kernel_rfl) (by kernel_rfl) ?_
          have hU := New.drew wr
          iterate 2 (
            refine up_quiet rfl rfl (v := ?_) (fun W hW => ?_) ?_
            rotate_left
            · go_simp <;> with_reducible rfl
            simp only [Act.put, List.setIfInBounds_toArray, List.set_cons_zero, List.set_cons_succ])
          iterate 11 (
            refine up_skip rfl rfl ?_
            simp only [Act.put, List.setIfInBounds_toArray, List.set_cons_zero, List.set_cons_succ])
          iterate 2 (
            refine up_quiet rfl rfl (v := ?_) (fun W hW => ?_) ?_
            rotate_left
            · go_simp <;> with_reducible rfl
            simp only [Act.put, List.setIfInBounds_toArray, List.set_cons_zero, List.set_cons_succ])
          refine up_nil ?_
          have BE := Lib.hid (New.trans b7.out hU)
          clear HA HB EXY DX DY b wfk kb2 kb3 kt
          go_wp2
          go_roundw
          case rel => exact ⟨k + 1, by omega, by rw [TD.out, Bool.false_and], by go_num, BE⟩
          case measure => simp [intOf]; omega
      · obtain rfl : k = P.length := by omega
        have L8 := Lib.hid (L7.out.new b7.out)
        have M8 := Lib.hid (M7.out.new b7.out)
        have B8 := Lib.hid (New.trans B7.out b7.out)
        have hLM : decide (P.take P.length = M.take P.length) = decide (P = M) := by
          rw [List.take_length, ← HMl.out, List.take_length]
        rw [hLM]
        have hl1 : (rootD L).2.length ≤ 1000000 := by have := rootD_few HD.out; omega
        have hl2 : jf.length ≤ 1000000 := by omega
        have EX := Lib.hid (lextract_any L8.out M8.out hl1 hl2 (rootD_good HD.out) GE.out (HC.out.new B8.out))
        have GF := Lib.hid (rootD_good HD.out)
        clear hLM hlt hk L7 M7 B7 b7 LA LB HMg HMl GA7 GB7 EQ2 hl1 hl2
        by_cases hq : P = M
        · rw [decide_eq_true hq]
          clear hq TE
          go_wp2_with fail
          refine EX.out.mono ?_
          rintro e w9 hx
          obtain ⟨A1, n1, c1, A2, n2, c2', rfl, r1, r2, k1, k2, b9⟩ := hx
          have B9 := Lib.hid (New.trans B8.out b9)
          clear r1 r2 k1 k2 b9 EX
          generalize (extractO (rootD L).2 jf).isSome = fo at *
          go_wp2
          go_ret
          exact ⟨by simp, B9.out⟩
        · rw [decide_eq_false hq]
          have TE := TE.out.resolve_left hq
          have TE := Lib.hid TE
          clear hq
          go_wp2_with fail
          refine EX.out.mono ?_
          rintro e w9 hx
          obtain ⟨A1, n1, c1, A2, n2, c2', rfl, r1, r2, k1, k2, b9⟩ := hx
          have B9 := Lib.hid (New.trans B8.out b9)
          obtain ⟨p, hp, p2, hp2, hne, hsm⟩ := TE.out
          obtain ⟨⟨x, y⟩, ho⟩ := extractO_some hp hp2 hne hsm
          rw [ho] at r1 r2 ⊢
          obtain ⟨hx, hy, hxy, hs⟩ := extractO_is ho
          obtain ⟨x8, xl⟩ := GF.out x hx
          obtain ⟨y8, yl⟩ := GE.out y hy
          have BB := bstr_beq x8 y8
          rw [decide_eq_false hxy] at BB
          have r1 : Reads w9 w9.heap.size 1 A1 n1 (nums .u8 x) := r1
          have r2 : Reads w9 w9.heap.size 1 A2 n2 (nums .u8 y) := r2
          have st1 := run_str (P := Tryd.prog) (c := c1) (src := 22) (dst := 9) (e := 5) (by kernel_rfl) (by kernel_rfl) (by kernel_rfl) r1
          have st2 := run_str (P := Tryd.prog) (c := c2') (src := 22) (dst := 9) (e := 5) (by kernel_rfl) (by kernel_rfl) (by kernel_rfl) r2
          have s1 := sum_any r1 x8 k1.1 (by rw [r1.len]; exact xl) (HC.out.new B9.out)
          have s2 := fun W (hW : New w9 W) => sum_any (Reads.later r2 hW) y8 k2.1 (by rw [r2.len]; exact yl) (HC.out.new (New.trans B9.out hW))
          have EQS := eqDig2 x y
          rw [← hs] at EQS
          have s2 : ∀ W : World, New w9 W → Calls Tryd.prog 28 #[.slice A2 n2 c2'] W (NewPost (.agg (ints .u8 (sumI x)).toArray) W) := fun W hW => by rw [hs]; exact s2 W hW
          rw [show (sumI x == sumI x) = true by simp] at EQS
          obtain ⟨cs, hcs⟩ : ∃ cs, cs = (ints .u8 (sumI x)).toArray := ⟨_, rfl⟩
          rw [← hcs] at s1 s2 EQS
          have S1 := Lib.hid s1
          have S2 := Lib.hid s2
          clear hx hy hxy hs x8 y8 xl yl s1 s2 hcs r1 r2 b9 EX ho hp hp2 hne hsm TE GF GE
          generalize bstr x = sb1 at *
          generalize bstr y = sb2 at *
          go_wp2_with fail
          refine S1.out.mono ?_
          rintro e w10 ⟨rfl, b10⟩
          have B10 := Lib.hid (New.trans B9.out b10)
          have S2 := Lib.hid (S2.out w10 b10)
          clear b10 st1 st2
          go_wp2_with fail
          refine S2.out.mono ?_
          rintro e w11 ⟨rfl, b11⟩
          have B11 := Lib.hid (New.trans B10.out b11)
          clear b11
          go_wp2
          go_ret
          exact ⟨by simp, B11.out⟩

set_option maxRecDepth 100000 in
open Go.WideShapes Go.ChangeShapes in
theorem proofSound_contract {H : Type} {enc : TypeId × Value → H} (W : World) (base : Nat) (args : Array Value) (ds : List (DataW H)) (ps : List MemPlace)
    (hval : ∀ (j : Nat) t v, Tryd.f11.params[j]? = some t → args[j]? = some v → Value.okWide Tryd.prog W .any base t v)
    (hA : DataW.TrodAll enc Tryd.prog W 0 (fun _ => true) true Tryd.f11.params.toList args.toList ds ps) (hlt : ∀ p ∈ ps, p.block < W.heap.size)
    (hsz : (DataW.weightsEach Tryd.prog Tryd.f11.params.toList ds).all (· ≤ reachBytes) = true) (hL : laidMetH Tryd.prog laidC W) :
    Calls Tryd.prog 11 args W fun e W' => e = .returned (.bool true) ∧ Below W.heap.size W W' := by
  rw [Tryd.params11] at hA hval hsz
  obtain ⟨v0, v1, v2, v3, d0, d1, d2, d3, p0, p1, p2, p3, rfl, rfl, rfl, h0, h1, h2, h3⟩ := trodAll_four hA
  -- leaves: v0 d0 p0 h0, hval 0
  obtain ⟨lo, rfl, wlo, wlo'⟩ := open_i64 (hval 1 _ _ rfl rfl) h1
  -- part: v2 d2 p2 h2, hval 2
  -- p: v3 d3 p3 h3, hval 3
  have _ := wlo
  obtain ⟨A_a, c_a, L_a, rfl, hr, hd, hc, hm⟩ := open_Ds (hval 0 _ _ rfl rfl) h0 (fun p hp => hlt p (by simp [hp])) (sized_at hsz (j := 0) rfl rfl)
  obtain ⟨A_b, c_b, L_b, rfl, kr, kd, kc, km⟩ := open_Ds (hval 2 _ _ rfl rfl) h2 (fun p hp => hlt p (by simp [hp])) (sized_at hsz (j := 2) rfl rfl)
  obtain ⟨A_c, c_c, L_c, rfl, rr, rd, rc, rm⟩ := open_Ds (hval 3 _ _ rfl rfl) h3 (fun p hp => hlt p (by simp [hp])) (sized_at hsz (j := 3) rfl rfl)
  exact proofSound_walk lo wlo' hr hd hc hm kr kd kc km rr rd rc rm (const_of_laid hL)

end Go.Proofs.YtgfemjpeegbhhaaDoor
