/- TreeHalves returns true whatever comes in, and leaves all that was there as it was. -/
import Derived.Test.YtgfemjpeegbhhaaDoorBun7

namespace Go.Proofs.YtgfemjpeegbhhaaDoor
open Go.RowKit Go.Hm
theorem wrap64_is (n : Int) (h : -9223372036854775808 ≤ n ∧ n ≤ 9223372036854775807) : wrap64 n = n := by unfold wrap64; omega
theorem shl_is {dk k : Nat} (h : k = 2 ^ dk) (hk : k ≤ 60) : wrap64 ((2 : Int) ^ dk) = (k : Int) := by
  have e : ((2 : Int) ^ dk) = ((2 ^ dk : Nat) : Int) := by simp
  rw [e, ← h]
  exact wrap64_is _ ⟨by omega, by omega⟩
theorem LogSt.set_ {w W : World} {g : Nat} {F : List (List Nat)} {K : List (Nat × Array Value)} {b : Nat} {old : Array Value} (h : LogSt w g W F ((b, old) :: K)) (hb : w.heap.size ≤ b) (hK : ∀ p ∈ K, p.1 ≠ b) (cs : Array Value) : LogSt w g (W.setRow b cs) F ((b, cs) :: K) := by
  obtain ⟨V, l, n, k⟩ := h
  have kb : Blk W b 32 old := k (b, old) (List.mem_cons_self ..)
  have tt : Turns [b] W (W.setRow b cs) := Turns.of_far (far_setRow (g := b) W cs) (by simp)
  have nT := l.notT kb (by decide) (by decide)
  refine ⟨V, l.turn tt (by simp; rintro rfl; exact nT (by simp)) ?_ ?_, Turns.below n tt (by simp; exact hb) (Nat.le_refl _), fun p hp => ?_⟩
  · intro x hx
    simp at hx
    subst hx
    exact fun e => nT (List.mem_cons_of_mem _ (rowT_mem e))
  · intro x hx _ cs' hB
    simp at hx
    subst hx
    exact Blk.ne_ kb hB (by decide) rfl
  · rcases List.mem_cons.1 hp with rfl | hp
    · exact blk_setRow kb cs
    · exact (k p (by simp [hp])).touch tt (by simp; exact hK p hp)
set_option maxHeartbeats 8000000 in
set_option maxRecDepth 100000 in
theorem treeHalves_walk {w : World} {A : Option Addr} {c : Nat} {L : List (List Nat)} (hR : Reads w w.heap.size 32 A L.length (recs digC L)) (hD : Digs L) (hc : L.length ≤ c) (hcm : c ≤ 9223372036854775807) (hC : ConstIn w) :
    Calls Tryd.prog 7 #[.slice A L.length c] w (SmallPost w) := by
  have SM := Lib.hid (small21_any w hC)
  have HR := Lib.hid hR
  have HD := Lib.hid hD
  have HC := Lib.hid hC
  clear hR hD hC
  go_enter Tryd.func7, Tryd.ntmps7
  go_wp2_with fail
  refine SM.out.mono ?_
  rintro e w1 ⟨rfl, b1⟩
  have B1 := Lib.hid b1
  clear SM b1
  go_wp2_with fail
  refine new_any.mono ?_
  rintro e w2 ⟨rfl, rfl⟩
  have l1 := LogOf.made w1 w.heap.size
  obtain ⟨w3, hw3⟩ : ∃ W, W = w1.alloc (.cells #[.slice none 0 0] 62) := ⟨_, rfl⟩
  have b3 : New w w3 := by rw [hw3]; exact New.trans B1.out (new_alloc2 _ _)
  rw [← hw3] at l1
  rw [← hw3]
  have hgw : w.heap.size ≤ w1.heap.size := B1.out.size
  generalize w1.heap.size = g at *
  have B3 := Lib.hid b3
  have S3 := Lib.hid (show LogSt w g w3 [] [] from ⟨_, l1, b3, by simp⟩)
  clear hw3 B1 b3 l1
  obtain ⟨n, hn⟩ : ∃ n, n = L.length := ⟨_, rfl⟩
  have HN := Lib.hid hn
  rw [← hn] at hc ⊢
  clear hn
  by_cases h1 : n < 2
  · have d1 : decide ((n : Int) < 2) = true := by simp; omega
    go_wp2
    go_ret
    exact ⟨rfl, B3.out⟩
  have d1 : decide ((n : Int) < 2) = false := by simp; omega
  by_cases h2 : 60 < n
  · have d2 : decide ((60 : Int) < (n : Int)) = true := by simp; omega
    go_wp2
    go_ret
    exact ⟨rfl, B3.out⟩
  have d2 : decide ((60 : Int) < (n : Int)) = false := by simp; omega
  obtain ⟨k1, k2, k3⟩ := splitN_lt (n := n) (by omega)
  have SP := split_any (n : Int) w3 (by omega) (by omega)
  rw [Int.toNat_natCast] at SP
  replace SP := Lib.hid SP
  have DN : ∀ m : Nat, m ≤ 60 → ∀ W, Calls Tryd.prog 25 #[.int .i64 (m : Int)] W (ValPost (.int .i64 (depthN m : Nat)) W) := fun m hm W => by
    have := depth_any 61 (m : Int) W (by omega) (by omega) (by omega)
    rwa [Int.toNat_natCast] at this
  have P1 := depthN_step (n := n) (by omega)
  have P2 := depthN_mono k3
  obtain ⟨s1, s2, s3⟩ := splitN_pow (n := n) (by omega)
  have P3 : depthN (splitN n) = (n - 1).log2 := by rw [s1, depthN_pow]
  have P4 : splitN n = 2 ^ depthN (splitN n) := by rw [P3, s1]
  have P5 : depthN (splitN n) ≤ 6 := by
    rw [P3]
    have h64 : 2 ^ (n - 1).log2 < 2 ^ 6 := by omega
    have := (Nat.pow_lt_pow_iff_right (by omega : 1 < 2)).1 h64
    omega
  have RM := rootD_many (L := L) (by rw [← HN.out]; omega)
  rw [← HN.out] at RM
  replace P4 := Lib.hid P4
  replace P1 := Lib.hid P1
  replace P2 := Lib.hid P2
  replace P5 := Lib.hid P5
  replace DN := Lib.hid DN
  clear s1 s2 s3 P3
  generalize splitN n = k at *
  have lv := leafIn_of HR.out HD.out (Below.refl _ w) (T := []) (by simp)
  have RA := (lv.take (k := k) (by rw [← HN.out]; omega)).row
  have RB := (lv.drop (k := k) (c := c) (by rw [← HN.out]; omega) (by rw [← HN.out]; exact hc)).row
  have DA := HD.out.take k
  have DB := HD.out.drop k
  have la : (L.take k).length = k := by rw [List.length_take, ← HN.out]; omega
  have lb : (L.drop k).length = n - k := by rw [List.length_drop, ← HN.out]
  rw [if_neg (show ¬ c = k by omega)] at RB
  have RL := HR.out
  have F1 := rootD_few HD.out
  have F2 := rootD_few DA
  have F3 := rootD_few DB
  rw [← HN.out] at F1
  rw [la] at F2
  rw [lb] at F3
  have KR := Lib.hid (fun (W : World) (K : List (Nat × Array Value)) (h : LogSt w g W [] K) => by
    have := root_st (A := A) (c := c) hgw HC.out h RL HD.out (by rw [← HN.out]; exact hc) hcm (by rw [← HN.out]; simp; omega)
    rwa [← HN.out] at this)
  have KA := Lib.hid (fun (W : World) (K : List (Nat × Array Value)) (h : LogSt w g W ([] ++ (rootD L).2) K) => by
    have := root_st (A := A) (c := c) hgw HC.out h RA DA (by omega) hcm (by rw [la]; simp; omega)
    rwa [la] at this)
  have KB := Lib.hid (fun (W : World) (K : List (Nat × Array Value)) (h : LogSt w g W ([] ++ (rootD L).2 ++ (rootD (L.take k)).2) K) => by
    have := root_st (A := A.map (·.add (k * 32))) (c := c - k) hgw HC.out h RB DB (by omega) (by omega) (by rw [lb]; simp; omega)
    rwa [lb] at this)
  have KN := Lib.hid (fun (W : World) (K : List (Nat × Array Value)) (h : LogSt w g W ([] ++ (rootD L).2 ++ (rootD (L.take k)).2 ++ (rootD (L.drop k)).2) K) => by
    have := node_st hgw HC.out h (rootD_dig _ DA) (rootD_dig _ DB) (by simp; omega)
    rwa [show hashN nodeTag [(rootD (L.take k)).1, (rootD (L.drop k)).1] = (rootD L).1 by rw [RM]] at this)
  clear RM RA RB DA DB RL F1 F2 F3 lv
  obtain ⟨ca, ea, ia, za, oa, -⟩ := dV_agg (rootD_dig L HD.out)
  have CX := Lib.hid ea
  have Ia := Lib.hid ia
  have Za := Lib.hid za
  have Oa := Lib.hid oa
  have EQ := fun W => eqDV (rootD_dig L HD.out) (rootD_dig L HD.out) W
  rw [ea, decide_eq_true rfl] at EQ
  have HEQ := Lib.hid EQ
  rw [ea] at KR
  clear EQ ea ia za oa la lb
  go_wp2_with fail
  (with_reducible refine SP.out.mono ?_)
  rintro e w4 ⟨rfl, rfl⟩
  have q1 : decide ((k : Int) < 1) = false := by simp; omega
  have q2 : decide ((n : Int) ≤ (k : Int)) = false := by simp; omega
  have q3 : decide ((k : Int) < (n : Int) - (k : Int)) = false := by simp; omega
  go_wp2_with fail
  (with_reducible refine (KR.out _ _ S3.out).mono ?_)
  rintro e w5 ⟨rfl, s5, b5⟩
  have S5 := Lib.hid (s5.add ca)
  have B5 := Lib.hid s5.news
  clear s5 b5 q1 q2 q3 d1 d2 SP KR S3 B3
  go_upto_region 10 with (refine wpList_store_row rfl 32 (.tmp 7) (.tmp 46) rfl w5.heap.size ca rfl rfl _ _ (heap_alloc_new _ _) Ia.out Za.out Oa.out ?_; rw [alloc_setRow])
  dsimp only [Act.put]
  obtain ⟨w6, hw6⟩ : ∃ W, W = w5.alloc (.cells ca 32) := ⟨_, rfl⟩
  rw [← hw6] at S5 ⊢
  have hba : w.heap.size ≤ w5.heap.size := B5.out.size
  have hbb : w5.heap.size < w6.heap.size := by rw [hw6]; simp
  generalize w5.heap.size = ba at *
  clear hw6 B5
  have S6 := Lib.hid (S5.out.new (New.drew w6))
  obtain ⟨w7, hw7⟩ : ∃ W, W = w6.drew := ⟨_, rfl⟩
  have hbw : ba < w7.heap.size := by rw [hw7]; exact hbb
  rw [← hw7] at S6
  have HW7 := Lib.hid hw7
  clear hw7 S5 hbb
  go_cut [8] (fun s8 wx => ∃ (gx : Nat) (F : List (List Nat)), s8 = .pointer (some ⟨gx, 0, none⟩) ∧ Hid (LogSt w g wx F [(gx, ca), (ba, ca)]))
  case first =>
    refine wp_region_plan (Below w.heap.size) (.quiet 0 (.quiet 1 (.quiet 2 (.quiet 3 (.quiet 4 (.quiet 6 (.quiet 7 (.quiet 8 (.quiet 9 (.two 5 (.two 10 (.two 11 (.alone 12 (.alone 13 .done)) 12 (.alone 11 (.alone 13 .done))) 12 (.alone 10 (.alone 11 (.alone 13 .done)))) 12 (.alone 5 (.alone 10 (.alone 11 (.alone 13 .done))))))))))))))
      (Below.refl _) Below.trans (by kernel_rfl) (by kernel_rfl) (by kernel_rfl) (by kernel_rfl) ?_
    rw [← HW7.out]
    iterate 4 (
      refine plan_quiet rfl rfl (v := ?_) (fun W hW => ?_) ?_
      rotate_left
      · go_simp <;> with_reducible rfl
      simp only [Act.put, List.setIfInBounds_toArray, List.set_cons_zero, List.set_cons_succ])
    refine plan_quiet rfl rfl (v := .slice A k c) (fun W hW => by have q := dslice_h A n c k (by omega) W; go_simp) ?_
    simp only [Act.put, List.setIfInBounds_toArray, List.set_cons_zero, List.set_cons_succ]
    iterate 3 (
      refine plan_quiet rfl rfl (v := ?_) (fun W hW => ?_) ?_
      rotate_left
      · go_simp <;> with_reducible rfl
      simp only [Act.put, List.setIfInBounds_toArray, List.set_cons_zero, List.set_cons_succ])
    refine plan_quiet rfl rfl (v := .slice (A.map (·.add (k * 32))) (n - k) (c - k)) (fun W hW => by have q := dslice_l A n c k (by omega) W; rw [if_neg (show ¬ c = k by omega)] at q; go_simp) ?_
    simp only [Act.put, List.setIfInBounds_toArray, List.set_cons_zero, List.set_cons_succ]
    have FIN := Lib.hid (fun (W : World) (F : List (List Nat)) (gx : Nat) (old : Array Value) (h : LogSt w g W F [(gx, old), (ba, ca)]) (h1 : w.heap.size ≤ gx) (h2 : ba ≠ gx) => show LogSt w g (W.setRow gx ca) F [(gx, ca), (ba, ca)] from LogSt.set_ h h1 (by simpa using h2) ca)
    have S7 := S6.out
    have Z7 : ba + 1 ≤ w7.heap.size := hbw
    refine plan_two ?_ ?_
    · refine plan_op rfl rfl (fun K hK => ?_)
      go_simp
      refine (KA.out _ _ S7).mono ?_
      rintro e10 u10 ⟨rfl, s10, h10⟩
      refine hK _ _ h10 ?_
      clear hK
      have Z10 := Nat.le_trans Z7 h10.size
      refine plan_two ?_ ?_
      · refine plan_op rfl rfl (fun K hK => ?_)
        go_simp
        refine (KB.out _ _ s10).mono ?_
        rintro e11 u11 ⟨rfl, s11, h11⟩
        refine hK _ _ h11 ?_
        clear hK
        have Z11 := Nat.le_trans Z10 h11.size
        refine plan_two ?_ ?_
        · refine plan_op rfl rfl (fun K hK => ?_)
          go_simp
          refine (KN.out _ _ s11).mono ?_
          rintro e12 u12 ⟨rfl, s12, h12⟩
          refine hK _ _ h12 ?_
          clear hK
          have Z12 := Nat.le_trans Z11 h12.size
          refine plan_alone (plan_op rfl rfl (fun K hK => ?_))
          go_simp
          refine hK _ _ ((Below.refl _ _).alloc s12.news.size _) ?_
          clear hK
          have s13 := s12.add (ints .u8 zero32).toArray
          have GX : w.heap.size ≤ u12.heap.size := s12.news.size
          have Z13 : ba < u12.heap.size + 1 := by omega
          refine plan_alone (plan_op rfl rfl (fun K hK => ?_))
          refine wp_store_row 32 (.tmp 8) (.tmp 58) rfl u12.heap.size ca rfl CX.out _ _ (row_of_blk (s13.blk (b := u12.heap.size) (List.mem_cons_self ..))) Ia.out Za.out Oa.out ?_
          refine hK _ _ (Far.below (Below.refl _ _) (far_setRow (g := u12.heap.size) _ ca) GX s13.news.size) ?_
          clear hK
          refine plan_done ?_
          go_wp2_with fail
          go_meet
          exact ⟨_, _, rfl, Lib.hid (FIN.out _ _ _ _ s13 GX (by omega))⟩
        · refine plan_op rfl rfl (fun K hK => ?_)
          go_simp
          refine hK _ _ ((Below.refl _ _).alloc s11.news.size _) ?_
          clear hK
          have s13 := s11.add (ints .u8 zero32).toArray
          have GX : w.heap.size ≤ u11.heap.size := s11.news.size
          have Z13 : ba < u11.heap.size + 1 := by omega
          refine plan_alone (plan_op rfl rfl (fun K hK => ?_))
          go_simp
          refine (KN.out _ _ s13).mono ?_
          rintro e14 u14 ⟨rfl, s14, h14⟩
          refine hK _ _ h14 ?_
          clear hK
          have Z14 := h14.size
          refine plan_alone (plan_op rfl rfl (fun K hK => ?_))
          refine wp_store_row 32 (.tmp 8) (.tmp 58) rfl u11.heap.size ca rfl CX.out _ _ (row_of_blk (s14.blk (b := u11.heap.size) (List.mem_cons_self ..))) Ia.out Za.out Oa.out ?_
          refine hK _ _ (Far.below (Below.refl _ _) (far_setRow (g := u11.heap.size) _ ca) GX s14.news.size) ?_
          clear hK
          refine plan_done ?_
          go_wp2_with fail
          go_meet
          exact ⟨_, _, rfl, Lib.hid (FIN.out _ _ _ _ s14 GX (by omega))⟩
      · refine plan_op rfl rfl (fun K hK => ?_)
        go_simp
        refine hK _ _ ((Below.refl _ _).alloc s10.news.size _) ?_
        clear hK
        have s13 := s10.add (ints .u8 zero32).toArray
        have GX : w.heap.size ≤ u10.heap.size := s10.news.size
        have Z13 : ba < u10.heap.size + 1 := by omega
        refine plan_alone (plan_op rfl rfl (fun K hK => ?_))
        go_simp
        refine (KB.out _ _ s13).mono ?_
        rintro e14 u14 ⟨rfl, s14, h14⟩
        refine hK _ _ h14 ?_
        clear hK
        have Z14 := h14.size
        refine plan_alone (plan_op rfl rfl (fun K hK => ?_))
        go_simp
        refine (KN.out _ _ s14).mono ?_
        rintro e15 u15 ⟨rfl, s15, h15⟩
        refine hK _ _ h15 ?_
        clear hK
        have Z15 := h15.size
        refine plan_alone (plan_op rfl rfl (fun K hK => ?_))
        refine wp_store_row 32 (.tmp 8) (.tmp 58) rfl u10.heap.size ca rfl CX.out _ _ (row_of_blk (s15.blk (b := u10.heap.size) (List.mem_cons_self ..))) Ia.out Za.out Oa.out ?_
        refine hK _ _ (Far.below (Below.refl _ _) (far_setRow (g := u10.heap.size) _ ca) GX s15.news.size) ?_
        clear hK
        refine plan_done ?_
        go_wp2_with fail
        go_meet
        exact ⟨_, _, rfl, Lib.hid (FIN.out _ _ _ _ s15 GX (by omega))⟩
    · refine plan_op rfl rfl (fun K hK => ?_)
      go_simp
      refine hK _ _ ((Below.refl _ _).alloc S7.news.size _) ?_
      clear hK
      have s13 := S7.add (ints .u8 zero32).toArray
      have GX : w.heap.size ≤ w7.heap.size := S7.news.size
      have Z13 : ba < w7.heap.size + 1 := by omega
      refine plan_alone (plan_op rfl rfl (fun K hK => ?_))
      go_simp
      refine (KA.out _ _ s13).mono ?_
      rintro e14 u14 ⟨rfl, s14, h14⟩
      refine hK _ _ h14 ?_
      clear hK
      have Z14 := h14.size
      refine plan_alone (plan_op rfl rfl (fun K hK => ?_))
      go_simp
      refine (KB.out _ _ s14).mono ?_
      rintro e15 u15 ⟨rfl, s15, h15⟩
      refine hK _ _ h15 ?_
      clear hK
      have Z15 := h15.size
      refine plan_alone (plan_op rfl rfl (fun K hK => ?_))
      go_simp
      refine (KN.out _ _ s15).mono ?_
      rintro e16 u16 ⟨rfl, s16, h16⟩
      refine hK _ _ h16 ?_
      clear hK
      have Z16 := h16.size
      refine plan_alone (plan_op rfl rfl (fun K hK => ?_))
      refine wp_store_row 32 (.tmp 8) (.tmp 58) rfl w7.heap.size ca rfl CX.out _ _ (row_of_blk (s16.blk (b := w7.heap.size) (List.mem_cons_self ..))) Ia.out Za.out Oa.out ?_
      refine hK _ _ (Far.below (Below.refl _ _) (far_setRow (g := w7.heap.size) _ ca) GX s16.news.size) ?_
      clear hK
      refine plan_done ?_
      go_wp2_with fail
      go_meet
      exact ⟨_, _, rfl, Lib.hid (FIN.out _ _ _ _ s16 GX (by omega))⟩
  case rest =>
    obtain ⟨gx, F, rfl, S8⟩ := hcut
    have GA := Lib.hid (S8.out.blk (b := ba) (cs := ca) (by simp))
    have GX := Lib.hid (S8.out.blk (b := gx) (cs := ca) (by simp))
    have B8 := Lib.hid S8.out.news
    have D1 := Lib.hid (DN.out n (by omega))
    have D2 := Lib.hid (DN.out k (by omega))
    have D3 := DN.out (n - k) (by omega)
    rw [show ((n - k : Nat) : Int) = (n : Int) - (k : Int) by omega] at D3
    replace D3 := Lib.hid D3
    have P1 := P1.out
    have P2 := P2.out
    have P5 := P5.out
    have P4 := P4.out
    have EQ := HEQ.out
    clear DN S8 KA KB KN S6 HW7
    generalize depthN n = dn at *
    generalize depthN k = dk at *
    generalize depthN (n - k) = dl at *
    subst P1
    have C2 := Lib.hid (show decide ((dl : Int) ≤ (dk : Int)) = true by simp; omega)
    have C3 := Lib.hid (shl_is P4 (by omega))
    have w1 := wrap64_is ((n : Int) - (k : Int)) (by clear P4 P2 P5; omega)
    clear P4 P2
    go_wp2_with (first
      | (refine wpList_loadD rfl (.tmp 7) rfl ba ca rfl GA.out Ia.out ?_)
      | (refine wpList_loadD rfl (.tmp 8) rfl gx ca rfl GX.out Ia.out ?_)
      | fail)
    (with_reducible refine (D1.out _).mono ?_)
    rintro e' w' ⟨rfl, rfl⟩
    go_wp2_with fail
    (with_reducible refine (D2.out _).mono ?_)
    rintro e' w' ⟨rfl, rfl⟩
    go_wp2_with fail
    (with_reducible refine (D3.out _).mono ?_)
    rintro e' w' ⟨rfl, rfl⟩
    go_wp2_with fail
    (with_reducible refine (D2.out _).mono ?_)
    rintro e' w' ⟨rfl, rfl⟩
    have c2 := C2.out
    go_wp2_with fail
    (with_reducible refine (D2.out _).mono ?_)
    rintro e' w' ⟨rfl, rfl⟩
    have c3 := C3.out
    go_wp2
    go_ret
    exact ⟨by simp, B8.out⟩

set_option maxRecDepth 100000 in
open Go.WideShapes Go.ChangeShapes in
theorem treeHalves_contract {H : Type} {enc : TypeId × Value → H} (W : World) (base : Nat) (args : Array Value) (ds : List (DataW H)) (ps : List MemPlace)
    (hval : ∀ (j : Nat) t v, Tryd.f7.params[j]? = some t → args[j]? = some v → Value.okWide Tryd.prog W .any base t v)
    (hA : DataW.TrodAll enc Tryd.prog W 0 (fun _ => true) true Tryd.f7.params.toList args.toList ds ps) (hlt : ∀ p ∈ ps, p.block < W.heap.size)
    (hsz : (DataW.weightsEach Tryd.prog Tryd.f7.params.toList ds).all (· ≤ reachBytes) = true) (hL : laidMetH Tryd.prog laidC W) :
    Calls Tryd.prog 7 args W fun e W' => e = .returned (.bool true) ∧ Below W.heap.size W W' := by
  rw [Tryd.params7] at hA hval hsz
  obtain ⟨v0, d0, rfl, rfl, h0⟩ := trodAll_one hA
  -- a: v0 d0 p0 h0, hval 0
  obtain ⟨A_a, c_a, L_a, rfl, hr, hd, hc, hm⟩ := open_Ds (hval 0 _ _ rfl rfl) h0 hlt (sized_at hsz (j := 0) rfl rfl)
  exact treeHalves_walk hr hd hc hm (const_of_laid hL)

end Go.Proofs.YtgfemjpeegbhhaaDoor
