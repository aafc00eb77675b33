/- TreeTells returns true whatever comes in, and leaves all that was there as it was. -/
import Derived.Test.YtgfemjpeegbhhaaDoorBun7

namespace Go.Proofs.YtgfemjpeegbhhaaDoor
open Go.RowKit Go.Hm
set_option maxHeartbeats 8000000 in
set_option maxRecDepth 100000 in
theorem treeTells_walk {w : World} {A B : Option Addr} {c d : Nat} {L M : List (List Nat)} (hR : Reads w w.heap.size 32 A L.length (recs digC L)) (hD : Digs L) (hc : L.length ≤ c) (hcm : c ≤ 9223372036854775807)
    (kR : Reads w w.heap.size 32 B M.length (recs digC M)) (kD : Digs M) (kc : M.length ≤ d) (kcm : d ≤ 9223372036854775807) (hC : ConstIn w) :
    Calls Tryd.prog 5 #[.slice A L.length c, .slice B M.length d] w (SmallPost w) := by
  have SM := Lib.hid (small21_any w hC)
  have HR := Lib.hid hR
  have HD := Lib.hid hD
  have KR := Lib.hid kR
  have KD := Lib.hid kD
  have HC := Lib.hid hC
  clear hR hD hC kR kD
  go_enter Tryd.func5, Tryd.ntmps5
  go_wp2_with fail
  refine SM.out.mono ?_
  rintro e w1 ⟨rfl, b1⟩
  have B1 := Lib.hid b1
  clear SM b1
  go_wp2_with fail
  refine new_any.mono ?_
  rintro e w2 ⟨rfl, rfl⟩
  go_wp2_with fail
  refine new_any.mono ?_
  rintro e w3 ⟨rfl, rfl⟩
  have l1 := (LogOf.made w1 w.heap.size).new (new_alloc2 _ (.cells #[.slice none 0 0] 62))
  have l2 := LogOf.made (w1.alloc (.cells #[.slice none 0 0] 62)) w.heap.size
  have hz : (w1.alloc (.cells #[.slice none 0 0] 62)).heap.size = w1.heap.size + 1 := by simp
  rw [hz] at l2
  obtain ⟨w3, hw3⟩ : ∃ W, W = (w1.alloc (.cells #[.slice none 0 0] 62)).alloc (.cells #[.slice none 0 0] 62) := ⟨_, rfl⟩
  have b3 : New w w3 := by rw [hw3]; exact New.trans B1.out (New.trans (new_alloc2 _ _) (new_alloc2 _ _))
  rw [← hw3] at l1 l2
  rw [← hw3, hz]
  have hgw : w.heap.size ≤ w1.heap.size := B1.out.size
  generalize w1.heap.size = g at *
  have B3 := Lib.hid b3
  have L1 := Lib.hid l1
  have L2 := Lib.hid l2
  clear hw3 hz B1 b3 l1 l2
  by_cases h3 : 40 < L.length
  · have d3 : decide ((40 : Int) < (L.length : Int)) = true := by simp; omega
    go_wp2
    go_ret
    exact ⟨rfl, B3.out⟩
  have d3 : decide ((40 : Int) < (L.length : Int)) = false := by simp; omega
  by_cases h4 : M.length = L.length
  rotate_left
  · have e4 : ((L.length : Int) == (M.length : Int)) = false := by simp; omega
    have e5 : decide (L.length = M.length) = false := by simp; omega
    go_wp2
    go_ret
    exact ⟨rfl, B3.out⟩
  rw [h4]
  have H4 := Lib.hid h4
  have own := L1.out.own (B := w.heap.size) (Nat.le_refl _) hgw
  have own2 := L2.out.own (B := w.heap.size) (Nat.le_refl _) (by omega)
  have RT := Lib.hid (root_any (L.length + 1) (by omega) L1.out B3.out.size (by simp; omega) (leafIn_of HR.out HD.out B3.out own) hc hcm (fun w' t => HC.out.turn2 B3.out t own))
  obtain ⟨ca, ea, ia, za, oa, -⟩ := dV_agg (rootD_dig L HD.out)
  obtain ⟨cb, eb, ib, zb, ob, -⟩ := dV_agg (rootD_dig M KD.out)
  have EQ := fun W => eqDV (rootD_dig L HD.out) (rootD_dig M KD.out) W
  rw [ea, eb] at EQ
  have EQ := Lib.hid EQ
  rw [ea] at RT
  have EB := Lib.hid eb
  have Ia := Lib.hid ia
  have Za := Lib.hid za
  have Oa := Lib.hid oa
  have Ib := Lib.hid ib
  have Zb := Lib.hid zb
  have Ob := Lib.hid ob
  have OWN := Lib.hid own
  have OWN2 := Lib.hid own2
  clear own own2 ea eb ia za oa ib zb ob h4
  go_wp2_with fail
  (with_reducible refine RT.out.mono ?_)
  rintro e w4 ⟨rfl, V4, l4, _, t4⟩
  rw [List.nil_append] at l4
  have m4 := L2.out.beside (by decide) (by decide) (by decide) L1.out (by omega) (by simp [rowT, Value.ownBlock]) t4
  have b4 := Turns.below B3.out t4 OWN.out (Nat.le_refl _)
  have B4 := Lib.hid b4
  have L4 := Lib.hid l4
  have M4 := Lib.hid m4
  clear RT l4 m4 b4 t4 L1 L2 B3 d3
  go_wp2_with (refine wpList_store_row rfl 32 (.tmp 8) (.tmp 47) rfl w4.heap.size ca rfl rfl _ _ (heap_alloc_new _ _) Ia.out Za.out Oa.out ?_; rw [alloc_setRow])
  obtain ⟨w5, hw5⟩ : ∃ W, W = w4.alloc (.cells ca 32) := ⟨_, rfl⟩
  have n5 : New w4 w5 := by rw [hw5]; exact new_alloc2 _ _
  have GA := Lib.hid (show Blk w5 w4.heap.size 32 ca by rw [hw5]; exact Blk.new _ _ _)
  rw [← hw5]
  generalize w4.heap.size = ba at *
  have L5 := Lib.hid (L4.out.new n5)
  have M5 := Lib.hid (M4.out.new n5)
  have B5 := Lib.hid (New.trans B4.out n5)
  have RT := root_any (M.length + 1) (by omega) M5.out B5.out.size (by have := H4.out; simp; omega) (leafIn_of KR.out KD.out B5.out OWN2.out) kc kcm (fun w' t => HC.out.turn2 B5.out t OWN2.out)
  rw [H4.out, EB.out] at RT
  have RT := Lib.hid RT
  clear hw5 n5 L4 M4 B4
  (with_reducible refine RT.out.mono ?_)
  rintro e w6 ⟨rfl, V6, m6, _, t6⟩
  rw [List.nil_append] at m6
  have l6 := L5.out.beside (by decide) (by decide) (by decide) M5.out (by omega) (by simp [rowT, Value.ownBlock]) t6
  have b6 := Turns.below B5.out t6 OWN2.out (Nat.le_refl _)
  have ga6 := GA.out.touch t6 (M5.out.notT GA.out (by decide) (by decide))
  have B6 := Lib.hid b6
  have L6 := Lib.hid l6
  have M6 := Lib.hid m6
  have GA6 := Lib.hid ga6
  clear RT l6 m6 b6 t6 ga6 L5 M5 B5 GA
  go_wp2_with (refine wpList_store_row rfl 32 (.tmp 9) (.tmp 50) rfl w6.heap.size cb rfl rfl _ _ (heap_alloc_new _ _) Ib.out Zb.out Ob.out ?_; rw [alloc_setRow])
  obtain ⟨w7, hw7⟩ : ∃ W, W = w6.alloc (.cells cb 32) := ⟨_, rfl⟩
  have n7 : New w6 w7 := by rw [hw7]; exact new_alloc2 _ _
  have GB := Lib.hid (show Blk w7 w6.heap.size 32 cb by rw [hw7]; exact Blk.new _ _ _)
  rw [← hw7]
  generalize w6.heap.size = bb at *
  have GA := Lib.hid (GA6.out.below n7 GA6.out.lt)
  have L7 := Lib.hid (L6.out.new n7)
  have M7 := Lib.hid (M6.out.new n7)
  have B7 := Lib.hid (New.trans B6.out n7)
  have LA := Lib.hid (leafIn_of HR.out HD.out (Below.refl _ w) (T := []) (by simp))
  have LB := Lib.hid (leafIn_of KR.out KD.out (Below.refl _ w) (T := []) (by simp))
  clear hw7 n7 L6 M6 B6 GA6 OWN OWN2 Za Zb Oa Ob HR KR
  have DK : (Tryd.prog).eqGuardType (Tryd.prog).depth 32 = false := by kernel_rfl
  have DK := Lib.hid DK
  go_loopw [10, 11] (fun s i wr => ∃ k : Nat, k ≤ L.length ∧ s = .bool (decide (L.take k = M.take k)) ∧ i = .int .i64 (k : Int) ∧ Hid (New w7 wr)) (fun _ i _ => L.length - (intOf i).toNat)
  case atStart => exact ⟨0, by omega, by simp, rfl, Lib.hid (Below.refl _ _)⟩
  case round =>
    obtain ⟨k, hk, rfl, rfl, b7⟩ := hrel
    by_cases hlt : k < L.length
    · obtain ⟨ad, rfl, ha⟩ := LA.out.at_ hlt
      obtain ⟨bd, rfl, hb⟩ := LB.out.at_ (i := k) (by rw [H4.out]; exact hlt)
      have DX := Lib.hid (Digs.at_ HD.out hlt)
      have DY := Lib.hid (Digs.at_ (k := k) KD.out (by rw [H4.out]; exact hlt))
      have TD := Lib.hid (take_dec (L := L) (M := M) hlt (by rw [H4.out]; exact hlt))
      have EXY := Lib.hid (fun W => eqDV DX.out DY.out W)
      have HA := Lib.hid ha
      have HB := Lib.hid hb
      have b := Lib.hid (New.trans B7.out b7.out)
      clear ha hb
      generalize L.getD k [] = x at *
      generalize M.getD k [] = y at *
      generalize decide (L.take k = M.take k) = sb at *
      cases sb with
      | true =>
        go_wp2
        refine wp_region_up New [(true, 0), (true, 1), (true, 2), (true, 3), (true, 4), (true, 5), (true, 6), (true, 7), (true, 8), (true, 9), (true, 10), (true, 11), (true, 12)]
          New.refl New.trans (by kernel_rfl) (by kernel_rfl) (by kernel_rfl) (by kernel_rfl) ?_
        have hU := New.drew wr
        iterate 5 (
          refine up_quiet rfl rfl (v := ?_) (fun W hW => ?_) ?_
          rotate_left
          · go_simp <;> with_reducible rfl
          simp only [Act.put, List.setIfInBounds_toArray, List.set_cons_zero, List.set_cons_succ])
        refine up_quiet rfl rfl (v := .agg (nums .u8 x).toArray) (fun W hW => exec_load_at rfl (HA.out W (New.trans b.out (New.trans hU hW))) digarr rfl (i32L DX.out.1)) ?_
        simp only [Act.put, List.setIfInBounds_toArray, List.set_cons_zero, List.set_cons_succ]
        iterate 3 (
          refine up_quiet rfl rfl (v := ?_) (fun W hW => ?_) ?_
          rotate_left
          · go_simp <;> with_reducible rfl
          simp only [Act.put, List.setIfInBounds_toArray, List.set_cons_zero, List.set_cons_succ])
        refine up_quiet rfl rfl (v := .agg (nums .u8 y).toArray) (fun W hW => exec_load_at rfl (HB.out W (New.trans b.out (New.trans hU hW))) digarr rfl (i32L DY.out.1)) ?_
        simp only [Act.put, List.setIfInBounds_toArray, List.set_cons_zero, List.set_cons_succ]
        refine up_quiet rfl rfl (v := .bool (decide (x = y))) (fun W hW => exec_agg rfl rfl DK.out (EXY.out W)) ?_
        simp only [Act.put, List.setIfInBounds_toArray, List.set_cons_zero, List.set_cons_succ]
        iterate 2 (
          refine up_quiet rfl rfl (v := ?_) (fun W hW => ?_) ?_
          rotate_left
          · go_simp <;> with_reducible rfl
          simp only [Act.put, List.setIfInBounds_toArray, List.set_cons_zero, List.set_cons_succ])
        refine up_nil ?_
        have BE := Lib.hid (New.trans b7.out hU)
        clear HA HB EXY DX DY b
        go_wp2
        go_roundw
        case rel => exact ⟨k + 1, by omega, by rw [TD.out, Bool.true_and], by go_num, BE⟩
        case measure => simp [intOf]; omega
      | false =>
        go_wp2
        refine wp_region_up New [(true, 0), (true, 1), (true, 2), (true, 3), (true, 4), (true, 5), (true, 6), (true, 7), (true, 8), (true, 9), (true, 10), (true, 11), (true, 12)]
          New.refl New.trans (by kernel_rfl) (by kernel_rfl) (by kernel_rfl) (by kernel_rfl) ?_
        have hU := New.drew wr
        iterate 2 (
          refine up_quiet rfl rfl (v := ?_) (fun W hW => ?_) ?_
          rotate_left
          · go_simp <;> with_reducible rfl
          simp only [Act.put, List.setIfInBounds_toArray, List.set_cons_zero, List.set_cons_succ])
        iterate 9 (
          refine up_skip rfl rfl ?_
          simp only [Act.put, List.setIfInBounds_toArray, List.set_cons_zero, List.set_cons_succ])
        iterate 2 (
          refine up_quiet rfl rfl (v := ?_) (fun W hW => ?_) ?_
          rotate_left
          · go_simp <;> with_reducible rfl
          simp only [Act.put, List.setIfInBounds_toArray, List.set_cons_zero, List.set_cons_succ])
        refine up_nil ?_
        have BE := Lib.hid (New.trans b7.out hU)
        clear HA HB EXY DX DY b
        go_wp2
        go_roundw
        case rel => exact ⟨k + 1, by omega, by rw [TD.out, Bool.false_and], by go_num, BE⟩
        case measure => simp [intOf]; omega
    · obtain rfl : k = L.length := by omega
      have L8 := Lib.hid (L7.out.new b7.out)
      have M8 := Lib.hid (M7.out.new b7.out)
      have GA8 := Lib.hid (GA.out.below b7.out GA.out.lt)
      have GB8 := Lib.hid (GB.out.below b7.out GB.out.lt)
      have B8 := Lib.hid (New.trans B7.out b7.out)
      have hLM : decide (L.take L.length = M.take L.length) = decide (L = M) := by
        rw [List.take_length, ← H4.out, List.take_length]
      rw [hLM]
      clear hLM hlt hk L7 M7 GA GB B7 b7 LA LB
      have EQ2 := fun W => run_neq_agg (EQ.out W)
      have EQ1 := EQ.out
      by_cases hq : L = M
      · rw [decide_eq_true hq]
        have HE := Lib.hid (show (rootD L).1 = (rootD M).1 by rw [hq])
        rw [decide_eq_true HE.out] at EQ1 EQ2
        clear hq
        go_wp2_with (first
          | (refine wpList_loadD rfl (.tmp 8) rfl ba ca rfl GA8.out Ia.out ?_)
          | (refine wpList_loadD rfl (.tmp 9) rfl bb cb rfl GB8.out Ib.out ?_))
        go_ret
        exact ⟨by simp [HE.out], B8.out⟩
      · rw [decide_eq_false hq]
        have GF := rootD_good HD.out
        have GE := rootD_good KD.out
        have TE := rootD_tells L HD.out M KD.out H4.out
        have EX := Lib.hid (lextract_any L8.out M8.out (by have := rootD_few HD.out; omega) (by have := rootD_few KD.out; have := H4.out; omega) GF GE (HC.out.new B8.out))
        have GF := Lib.hid GF
        have GE := Lib.hid GE
        have TE := Lib.hid (fun (h : (rootD L).1 = (rootD M).1) => (TE h hq))
        clear hq
        go_wp2_with fail
        refine EX.out.mono ?_
        rintro e w9 hx
        obtain ⟨A1, n1, c1, A2, n2, c2, rfl, r1, r2, k1, k2, b9⟩ := hx
        have B9 := Lib.hid (New.trans B8.out b9)
        have GA9 := Lib.hid (GA8.out.below b9 GA8.out.lt)
        have GB9 := Lib.hid (GB8.out.below b9 GB8.out.lt)
        by_cases hr : (rootD L).1 = (rootD M).1
        · rw [decide_eq_true hr] at EQ1 EQ2
          obtain ⟨p, hp, p2, hp2, hne, hsm⟩ := TE.out hr
          obtain ⟨⟨x, y⟩, ho⟩ := extractO_some hp hp2 hne hsm
          rw [ho] at r1 r2 ⊢
          obtain ⟨hx, hy, hxy, hs⟩ := extractO_is ho
          obtain ⟨x8, xl⟩ := GF.out x hx
          obtain ⟨y8, yl⟩ := GE.out y hy
          have BB := bstr_beq x8 y8
          rw [decide_eq_false hxy] at BB
          have r1 : Reads w9 w9.heap.size 1 A1 n1 (nums .u8 x) := r1
          have r2 : Reads w9 w9.heap.size 1 A2 n2 (nums .u8 y) := r2
          have st1 := run_str (P := Tryd.prog) (c := c1) (src := 22) (dst := 9) (e := 5) (by kernel_rfl) (by kernel_rfl) (by kernel_rfl) r1
          have st2 := run_str (P := Tryd.prog) (c := c2) (src := 22) (dst := 9) (e := 5) (by kernel_rfl) (by kernel_rfl) (by kernel_rfl) r2
          have s1 := sum_any r1 x8 k1.1 (by rw [r1.len]; exact xl) (HC.out.new B9.out)
          have s2 := fun W (hW : New w9 W) => sum_any (Reads.later r2 hW) y8 k2.1 (by rw [r2.len]; exact yl) (HC.out.new (New.trans B9.out hW))
          have EQS := eqDig2 x y
          rw [← hs] at EQS
          have s2 : ∀ W : World, New w9 W → Calls Tryd.prog 28 #[.slice A2 n2 c2] W (NewPost (.agg (ints .u8 (sumI x)).toArray) W) := fun W hW => by rw [hs]; exact s2 W hW
          rw [show (sumI x == sumI x) = true by simp] at EQS
          obtain ⟨cs, hcs⟩ : ∃ cs, cs = (ints .u8 (sumI x)).toArray := ⟨_, rfl⟩
          rw [← hcs] at s1 s2 EQS
          have S1 := Lib.hid s1
          have S2 := Lib.hid s2
          clear hx hy hxy hs x8 y8 xl yl s1 s2 hcs r1 r2 b9 EX ho hp hp2 hne hsm hr TE GF GE
          generalize bstr x = sb1 at *
          generalize bstr y = sb2 at *
          go_wp2_with (first
            | (refine wpList_loadD rfl (.tmp 8) rfl ba ca rfl GA9.out Ia.out ?_)
            | (refine wpList_loadD rfl (.tmp 9) rfl bb cb rfl GB9.out Ib.out ?_)
            | fail)
          refine S1.out.mono ?_
          rintro e w10 ⟨rfl, b10⟩
          have B10 := Lib.hid (New.trans B9.out b10)
          have S2 := Lib.hid (S2.out w10 b10)
          clear b10 st1 st2
          go_wp2_with fail
          refine S2.out.mono ?_
          rintro e w11 ⟨rfl, b11⟩
          have B11 := Lib.hid (New.trans B10.out b11)
          clear b11
          go_wp2
          go_ret
          exact ⟨by simp, B11.out⟩
        · rw [decide_eq_false hr] at EQ1 EQ2
          clear r1 r2 k1 k2 b9 EX hr TE GF GE
          generalize (extractO (rootD L).2 (rootD M).2).isSome = fo at *
          go_wp2_with (first
            | (refine wpList_loadD rfl (.tmp 8) rfl ba ca rfl GA9.out Ia.out ?_)
            | (refine wpList_loadD rfl (.tmp 9) rfl bb cb rfl GB9.out Ib.out ?_))
          go_ret
          exact ⟨by simp, B9.out⟩

set_option maxRecDepth 100000 in
open Go.WideShapes Go.ChangeShapes in
theorem treeTells_contract {H : Type} {enc : TypeId × Value → H} (W : World) (base : Nat) (args : Array Value) (ds : List (DataW H)) (ps : List MemPlace)
    (hval : ∀ (j : Nat) t v, Tryd.f5.params[j]? = some t → args[j]? = some v → Value.okWide Tryd.prog W .any base t v)
    (hA : DataW.TrodAll enc Tryd.prog W 0 (fun _ => true) true Tryd.f5.params.toList args.toList ds ps) (hlt : ∀ p ∈ ps, p.block < W.heap.size)
    (hsz : (DataW.weightsEach Tryd.prog Tryd.f5.params.toList ds).all (· ≤ reachBytes) = true) (hL : laidMetH Tryd.prog laidC W) :
    Calls Tryd.prog 5 args W fun e W' => e = .returned (.bool true) ∧ Below W.heap.size W W' := by
  rw [Tryd.params5] at hA hval hsz
  obtain ⟨v0, v1, d0, d1, p0, p1, rfl, rfl, rfl, h0, h1⟩ := trodAll_two hA
  -- a: v0 d0 p0 h0, hval 0
  -- b: v1 d1 p1 h1, hval 1
  obtain ⟨A_a, c_a, L_a, rfl, hr, hd, hc, hm⟩ := open_Ds (hval 0 _ _ rfl rfl) h0 (fun p hp => hlt p (by simp [hp])) (sized_at hsz (j := 0) rfl rfl)
  obtain ⟨A_b, c_b, L_b, rfl, kr, kd, kc, km⟩ := open_Ds (hval 1 _ _ rfl rfl) h1 (fun p hp => hlt p (by simp [hp])) (sized_at hsz (j := 1) rfl rfl)
  exact treeTells_walk hr hd hc hm kr kd kc km (const_of_laid hL)

end Go.Proofs.YtgfemjpeegbhhaaDoor
