/- Texts merged, for a claim has at most 60 files: StaJ, StaT, PlnL, PlnN, PlnO, PlnP, StaK, StaL, StaQ, OpenSt, StaN. -/
import Derived.Test.YthdkbfffjlkbpaaBun2
import Derived.Test.YthdkbfffjlkbpaaBun4
import Derived.Test.YthdkbfffjlkbpaaBun5
import Derived.Test.YthdkbfffjlkbpaaBun6
/- The contract of stat.Get, whatever type. -/

namespace Go.Proofs.Ythdkbfffjlkbpaa
open Go.RowKit Go.Hm
set_option maxHeartbeats 4000000 in
set_option maxRecDepth 100000 in
theorem sget_out {w : World} {g : Nat} {S : St} {t : Int} (h : CurS w g S) (h1 : (byteS (lenS 65536 S).2).1 ≠ 1) (ht : ¬ (0 ≤ t ∧ t ≤ 3)) :
    Calls Try.prog 21 #[.pointer (some ⟨g, 0, none⟩), .int .i64 t] w
      (SGetPost stat0 g none w) := by
  have hle := lenS_le (m := 65536) S (by omega) h.ok
  have hlt := h.lt
  have ha : New w (w.alloc (.cells (statV stat0).toArray 31)) := (Below.refl _ _).alloc (Nat.le_refl _) _
  have h0 := h.below ha
  have L1 := Lib.hid (lenS_any (m := 65536) h0 (by omega) (by omega))
  have BZ0 : Blk (w.alloc (.cells (statV stat0).toArray 31)) w.heap.size 31 (statV stat0).toArray := Blk.new _ _ _
  generalize lenS 65536 S = H at *
  obtain ⟨n, S1⟩ := H
  dsimp only at *
  have hbl := byteS_lt (S := S1)
  have hRt : rightS t ((n : Int), false, cell0, cell0) = false := by
    unfold rightS
    rw [if_pos (by dsimp only; omega)]
  have SR := fun (W : World) => sright_any (w := W) (t := t) (s := ((n : Int), false, cell0, cell0)) (by unfold statFine cell0; simp)
  rw [hRt] at SR
  have SR : Hid (∀ W, Calls Try.prog 16 #[.int .i64 t, .agg #[.int .i64 (n : Int), .bool false, .bool false, .int .i64 0, .string ⟨#[]⟩, .int .i64 0, .int .i64 0, .bool false, .int .i64 0, .string ⟨#[]⟩, .int .i64 0, .int .i64 0]] W (NewPost (.bool false) W)) := Lib.hid SR
  clear hRt h
  go_enter Try.func21, Try.ntmps21
  go_wp2_with fail
  refine L1.out.mono ?_
  rintro e w1 ⟨rfl, s1, g1⟩
  have hbl := hbl s1.ok
  have C2 := Lib.hid (byteS_any (s1.below ((Below.refl _ _).alloc (Nat.le_refl _) (.cells #[.int .i64 (n : Int), .bool false, .bool false, .int .i64 0, .string ⟨#[]⟩, .int .i64 0, .int .i64 0, .bool false, .int .i64 0, .string ⟨#[]⟩, .int .i64 0, .int .i64 0] 31))))
  have hz1 := g1.size
  have BZ1 := (BZ0.grown g1 (by intro e; injection e with e; omega)).alloc (.cells #[.int .i64 (n : Int), .bool false, .bool false, .int .i64 0, .string ⟨#[]⟩, .int .i64 0, .int .i64 0, .bool false, .int .i64 0, .string ⟨#[]⟩, .int .i64 0, .int .i64 0] 31)
  have BT1 := Blk.new w1 31 #[.int .i64 (n : Int), .bool false, .bool false, .int .i64 0, .string ⟨#[]⟩, .int .i64 0, .int .i64 0, .bool false, .int .i64 0, .string ⟨#[]⟩, .int .i64 0, .int .i64 0]
  have G1 := (Far.of_new ha (g := g)).trans (g1.trans (Far.of_new ((Below.refl _ w1).alloc (Nat.le_refl _) (.cells #[.int .i64 (n : Int), .bool false, .bool false, .int .i64 0, .string ⟨#[]⟩, .int .i64 0, .int .i64 0, .bool false, .int .i64 0, .string ⟨#[]⟩, .int .i64 0, .int .i64 0] 31))))
  generalize byteS S1 = Bq at *
  obtain ⟨y, S2⟩ := Bq
  dsimp only at *
  clear L1 h0 BZ0 s1 g1 ha
  go_wp2_with fail
  refine C2.out.mono ?_
  rintro e w2 ⟨rfl, s2, g2⟩
  have hz2 := g2.size
  simp only [World.size_alloc] at hz1 hz2
  have BZ := BZ1.grown g2 (by intro e; injection e with e; omega)
  have BT := BT1.grown g2 (by intro e; injection e with e; omega)
  have G2 := G1.trans g2
  clear C2 BZ1 BT1 G1 g2
  obtain ⟨x0, x1, x2, x3, x4, x5, x6, x7, x8, x9, x10, x11⟩ := cells12 BT
  have y1 : ((y : Int) == 1) = false := beq_eq_false_iff_ne.2 (by omega)
  by_cases hy : 1 < y
  · have t1 : decide ((1 : Int) < (y : Int)) = true := by simp; omega
    have F := Lib.hid (failS s2)
    go_wp2_with fail
    refine F.out.mono ?_
    rintro e w3 ⟨rfl, s3, g3⟩
    have hz3 := g3.size
    have BZ3 := BZ.grown g3 (by intro e; injection e with e; omega)
    have G3 := Lib.hid (G2.trans g3)
    have HS3 := Lib.hid s3
    clear F BZ BT G2 g3 x0 x1 x2 x3 x4 x5 x6 x7 x8 x9 x10 x11 s2 s3
    go_wp2_with (refine wpList_storeG rfl 31 (.tmp 4) (.tmp 37) rfl w.heap.size _ rfl rfl BZ3 (by kernel_rfl) (by simp [statV, stat0, cellV]) (by simp [Value.oneCell']) ?_
                 intro W5 BR G5
                 obtain ⟨s0, s1, s2, s3, s4, s5, s6, s7, s8, s9, s10, s11⟩ := cells12 BR)
    exact bodyPost_ret (v := statA stat0) (by simp [results, Try.results21, go_sem, s0, s1, s2, s3, s4, s5, s6, s7, s8, s9, s10, s11, statA, statV, cellV, stat0, cell0, show bstr [] = ⟨#[]⟩ from rfl]) rfl ⟨rfl, HS3.out.keep G5 BZ3 (by omega) (by decide), grown_then G3.out G5 (Nat.le_refl _)⟩
  · obtain rfl : y = 0 := by omega
    have t1 : decide ((1 : Int) < ((0 : Nat) : Int)) = false := by simp
    have BD := Lib.hid (badS s2)
    cases S2 with
    | none =>
      go_wp2_with fail
      refine BD.out.mono ?_
      rintro e w2' ⟨rfl, rfl⟩
      have F := Lib.hid (failS s2)
      go_wp2_with fail
      refine F.out.mono ?_
      rintro e w3 ⟨rfl, s3, g3⟩
      have hz3 := g3.size
      have BZ3 := BZ.grown g3 (by intro e; injection e with e; omega)
      have G3 := Lib.hid (G2.trans g3)
      have HS3 := Lib.hid s3
      clear F BZ BT G2 g3 x0 x1 x2 x3 x4 x5 x6 x7 x8 x9 x10 x11 s2 s3
      go_wp2_with (refine wpList_storeG rfl 31 (.tmp 4) (.tmp 37) rfl w.heap.size _ rfl rfl BZ3 (by kernel_rfl) (by simp [statV, stat0, cellV]) (by simp [Value.oneCell']) ?_
                   intro W5 BR G5
                   obtain ⟨s0, s1, s2, s3, s4, s5, s6, s7, s8, s9, s10, s11⟩ := cells12 BR)
      exact bodyPost_ret (v := statA stat0) (by simp [results, Try.results21, go_sem, s0, s1, s2, s3, s4, s5, s6, s7, s8, s9, s10, s11, statA, statV, cellV, stat0, cell0, show bstr [] = ⟨#[]⟩ from rfl]) rfl ⟨rfl, HS3.out.keep G5 BZ3 (by omega) (by decide), grown_then G3.out G5 (Nat.le_refl _)⟩
    | some S2 =>
      go_wp2_with fail
      refine BD.out.mono ?_
      rintro e w2' ⟨rfl, rfl⟩
      go_wp2_with fail
      refine (SR.out _).mono ?_
      rintro e w3 ⟨rfl, b3⟩
      have hz3 := b3.size
      have BZ3 := BZ.below b3 BZ.lt
      have BT3 := BT.below b3 BT.lt
      have G3 := G2.trans (Far.of_new b3)
      have F := Lib.hid (failS (s2.below b3))
      clear BZ BT G2 b3 x0 x1 x2 x3 x4 x5 x6 x7 x8 x9 x10 x11 s2
      obtain ⟨x0, x1, x2, x3, x4, x5, x6, x7, x8, x9, x10, x11⟩ := cells12 BT3
      go_wp2_with fail
      refine F.out.mono ?_
      rintro e w4 ⟨rfl, s4, g4⟩
      have hz4 := g4.size
      have BZ4 := BZ3.grown g4 (by intro e; injection e with e; omega)
      have G4 := Lib.hid (G3.trans g4)
      have HS4 := Lib.hid s4
      clear F BZ3 BT3 G3 g4 x0 x1 x2 x3 x4 x5 x6 x7 x8 x9 x10 x11 s4
      go_wp2_with (refine wpList_storeG rfl 31 (.tmp 4) (.tmp 37) rfl w.heap.size _ rfl rfl BZ4 (by kernel_rfl) (by simp [statV, stat0, cellV]) (by simp [Value.oneCell']) ?_
                   intro W5 BR G5
                   obtain ⟨s0, s1, s2, s3, s4, s5, s6, s7, s8, s9, s10, s11⟩ := cells12 BR)
      exact bodyPost_ret (v := statA stat0) (by simp [results, Try.results21, go_sem, s0, s1, s2, s3, s4, s5, s6, s7, s8, s9, s10, s11, statA, statV, cellV, stat0, cell0, show bstr [] = ⟨#[]⟩ from rfl]) rfl ⟨rfl, HS4.out.keep G5 BZ4 (by omega) (by decide), grown_then G4.out G5 (Nat.le_refl _)⟩
theorem getA_no {t : Int} {S : St} (h1 : (byteS (lenS 65536 S).2).1 ≠ 1) (ht : 0 ≤ t ∧ t ≤ 3) (hS : S.ok) : getA t S = getR S := by
  have hle := lenS_le (m := 65536) S (by omega) hS
  unfold getA rawS getR
  rw [if_neg h1]
  generalize lenS 65536 S = H at *
  obtain ⟨n, S1⟩ := H
  dsimp only at *
  generalize byteS S1 = Bq at *
  obtain ⟨y, S2⟩ := Bq
  dsimp only at *
  have hRt : rightS t ((n : Int), false, cell0, cell0) = true := by
    unfold rightS
    rw [if_neg (by dsimp only; omega)]
    simp
  rw [hRt]
  by_cases hy : y = 0
  · subst hy
    cases S2 <;> simp
  · rw [if_neg (fun h => by omega), if_neg (fun h => hy h.1)]
theorem getA_out {t : Int} {S : St} (ht : ¬ (0 ≤ t ∧ t ≤ 3)) : getA t S = (stat0, none) := by
  unfold getA
  rw [if_neg]
  rintro ⟨_, _, h⟩
  exact ht (rightS_n h).1
theorem sget_any {w : World} {g : Nat} {S : St} {t : Int} (h : CurS w g S) (hl : (S.getD []).length ≤ 140737488351232) :
    Calls Try.prog 21 #[.pointer (some ⟨g, 0, none⟩), .int .i64 t] w (SGetPost (getA t S).1 g (getA t S).2 w) := by
  by_cases h1 : (byteS (lenS 65536 S).2).1 = 1
  · exact sget_has h h1 hl
  · by_cases ht : 0 ≤ t ∧ t ≤ 3
    · rw [getA_no h1 ht h.ok]
      exact sget_no h h1 ht
    · rw [getA_out ht]
      exact sget_out h h1 ht

end Go.Proofs.Ythdkbfffjlkbpaa
/- The contracts of hypostyleref15.May and Right. -/

namespace Go.Proofs.Ythdkbfffjlkbpaa
open Go.RowKit Go.Hm
set_option maxHeartbeats 1000000 in
set_option maxRecDepth 100000 in
theorem eqCell_any (a b : CellS) (W : World) : (binOp .eql 29 (cellA a) (cellA b)).run Try.prog W = .ok (.bool (eqC a b)) W := by
  obtain ⟨a1, a2, a3, a4, a5⟩ := a
  obtain ⟨b1, b2, b3, b4, b5⟩ := b
  show (binOp .eql 29 (.agg #[.bool a1, .int .i64 a2, .string (bstr a3), .int .i64 a4, .int .i64 a5]) (.agg #[.bool b1, .int .i64 b2, .string (bstr b3), .int .i64 b4, .int .i64 b5])).run Try.prog W = _
  go_simp
  unfold eqC
  repeat' split
  all_goals simp_all
set_option maxHeartbeats 2000000 in
set_option maxRecDepth 100000 in
theorem rmay_any {w : World} {t : Int} {s : StatS} {c : CellS} (h1 : near s.2.2.1) (h2 : near s.2.2.2) (h3 : near c) : Calls Try.prog 26 #[.int .i64 t, statA s, cellA c] w (NewPost (.bool (mayB t s c)) w) := by
  have C1 := Lib.hid (fun (W : World) => rcompareA_any (w := W) (t := t) h3 h1)
  have C2 := Lib.hid (fun (W : World) => rcompareA_any (w := W) (t := t) h3 h2)
  obtain ⟨M, hM⟩ : ∃ M, M = mayB t s c := ⟨_, rfl⟩
  rw [← hM]
  unfold mayB at hM
  rw [cmpD_neg t c s.2.2.1] at hM
  generalize cmpD t c s.2.2.1 = o1 at *
  generalize cmpD t c s.2.2.2 = o2 at *
  obtain ⟨n, b, ⟨p1, p2, p3, p4, p5⟩, ⟨q1, q2, q3, q4, q5⟩⟩ := s
  obtain ⟨c1, c2, c3, c4, c5⟩ := c
  unfold cellA cellV at C1 C2
  dsimp only at C1 C2 hM
  show Calls Try.prog 26 #[.int .i64 t, .agg #[.int .i64 n, .bool b, .bool p1, .int .i64 p2, .string (bstr p3), .int .i64 p4, .int .i64 p5, .bool q1, .int .i64 q2, .string (bstr q3), .int .i64 q4, .int .i64 q5], .agg #[.bool c1, .int .i64 c2, .string (bstr c3), .int .i64 c4, .int .i64 c5]] w (NewPost (.bool M) w)
  have B0 := Blk.new w 31 #[.int .i64 n, .bool b, .bool p1, .int .i64 p2, .string (bstr p3), .int .i64 p4, .int .i64 p5, .bool q1, .int .i64 q2, .string (bstr q3), .int .i64 q4, .int .i64 q5]
  have B1 := Blk.new (w.alloc (.cells #[.int .i64 n, .bool b, .bool p1, .int .i64 p2, .string (bstr p3), .int .i64 p4, .int .i64 p5, .bool q1, .int .i64 q2, .string (bstr q3), .int .i64 q4, .int .i64 q5] 31)) 29 #[.bool c1, .int .i64 c2, .string (bstr c3), .int .i64 c4, .int .i64 c5]
  have B0 := B0.alloc (.cells #[.bool c1, .int .i64 c2, .string (bstr c3), .int .i64 c4, .int .i64 c5] 29)
  have hb := new2 w (.cells #[.int .i64 n, .bool b, .bool p1, .int .i64 p2, .string (bstr p3), .int .i64 p4, .int .i64 p5, .bool q1, .int .i64 q2, .string (bstr q3), .int .i64 q4, .int .i64 q5] 31) (.cells #[.bool c1, .int .i64 c2, .string (bstr c3), .int .i64 c4, .int .i64 c5] 29)
  simp only [World.size_alloc] at B1
  obtain ⟨x0, x1, x2, x3, x4, x5, x6, x7, x8, x9, x10, x11⟩ := cells12 B0
  obtain ⟨y0, y1, y2, y3, y4⟩ := cells5 B1
  have HB0 := Lib.hid B0
  have HB1 := Lib.hid B1
  have Hb := Lib.hid hb
  clear B0 B1 hb
  cases c1 with
  | true =>
    rw [if_pos rfl] at hM
    have HM := Lib.hid hM
    clear hM
    go_enter Try.func26, Try.ntmps26
    go_wp2
    go_ret
    exact ⟨by rw [HM.out]; rfl, Hb.out⟩
  | false =>
    rw [if_neg (by simp)] at hM
    cases b with
    | false =>
      rw [Bool.false_and] at hM
      have HM := Lib.hid hM
      clear hM
      go_enter Try.func26, Try.ntmps26
      go_wp2
      go_ret
      exact ⟨by rw [HM.out]; rfl, Hb.out⟩
    | true =>
      rw [Bool.true_and] at hM
      have HM := Lib.hid hM
      clear hM
      go_enter Try.func26, Try.ntmps26
      go_wp2_with fail
      refine (C1.out _).mono ?_
      rintro e w1 ⟨rfl, b1⟩
      have B0 := HB0.out.below b1 (by simp; omega)
      have B1 := HB1.out.below b1 (by simp)
      have b01 := New.trans Hb.out b1
      clear x0 x1 x2 x3 x4 x5 x6 x7 x8 x9 x10 x11 y0 y1 y2 y3 y4 HB0 HB1 Hb b1
      obtain ⟨x0, x1, x2, x3, x4, x5, x6, x7, x8, x9, x10, x11⟩ := cells12 B0
      obtain ⟨y0, y1, y2, y3, y4⟩ := cells5 B1
      by_cases h1 : 0 ≤ o1
      · have d1 : decide (0 ≤ o1) = true := decide_eq_true h1
        have d2 : decide (-o1 ≤ 0) = true := decide_eq_true (by omega)
        have HD := Lib.hid d2
        clear d2
        go_wp2_with fail
        refine (C2.out _).mono ?_
        rintro e w2 ⟨rfl, b2⟩
        go_wp2
        go_ret
        exact ⟨by rw [HM.out, HD.out]; rfl, New.trans b01 b2⟩
      · have hM := HM.out
        rw [decide_eq_false (show ¬ -o1 ≤ 0 by omega), Bool.false_and] at hM
        have d1 : decide (0 ≤ o1) = false := decide_eq_false h1
        clear HM
        have HM := Lib.hid hM
        clear hM
        go_wp2
        go_ret
        exact ⟨by rw [HM.out]; rfl, b01⟩
set_option maxHeartbeats 4000000 in
set_option maxRecDepth 100000 in
theorem rsright_any {w : World} {t : Int} {s : StatS} (hf : statFine s) : Calls Try.prog 17 #[.int .i64 t, statA s] w (NewPost (.bool (rightS t s)) w) := by
  obtain ⟨M, hM⟩ : ∃ M, M = rightS t s := ⟨_, rfl⟩
  rw [← hM]
  unfold rightS at hM
  obtain ⟨n, b, p, q⟩ := s
  obtain ⟨⟨hf1, hf2⟩, hf3, hf4⟩ := hf
  dsimp only at hM hf1 hf2 hf3 hf4
  have E1 : ∀ W, (binOp .eql 29 (cellA p) (cellA cell0)).run Try.prog W = .ok (.bool (decide (p = cell0))) W := fun W => by
    rw [eqCell_any, eqC_is hf2 (by simp [cell0])]
  have E2 : ∀ W, (binOp .eql 29 (cellA q) (cellA cell0)).run Try.prog W = .ok (.bool (decide (q = cell0))) W := fun W => by
    rw [eqCell_any, eqC_is hf4 (by simp [cell0])]
  have HN := fun (h1 : rightB p t false = true) (h2 : rightB q t false = true) (W : World) => rcompareA_any (w := W) (t := t) (a := p) (b := q) (right_near h1) (right_near h2)
  have R1 := fun (W : World) => rcright_any (w := W) (b := p.1) (n := p.2.1) (s := p.2.2.1) (x := p.2.2.2.1) (y := p.2.2.2.2) (cn := []) (t := t) (nu := false) hf1
  have R2 := fun (W : World) => rcright_any (w := W) (b := q.1) (n := q.2.1) (s := q.2.2.1) (x := q.2.2.2.1) (y := q.2.2.2.2) (cn := []) (t := t) (nu := false) hf3
  generalize decide (p = cell0) = e1 at *
  generalize decide (q = cell0) = e2 at *
  generalize cmpD t p q = o at *
  obtain ⟨p1, p2, p3, p4, p5⟩ := p
  obtain ⟨q1, q2, q3, q4, q5⟩ := q
  dsimp only at R1 R2 hM
  generalize rightB (p1, p2, p3, p4, p5) t false = m1 at *
  generalize rightB (q1, q2, q3, q4, q5) t false = m2 at *
  have E1 : ∀ W, (binOp .eql 29 (.agg #[.bool p1, .int .i64 p2, .string (bstr p3), .int .i64 p4, .int .i64 p5]) (.agg #[.bool false, .int .i64 0, .string ⟨#[]⟩, .int .i64 0, .int .i64 0])).run Try.prog W = .ok (.bool e1) W := E1
  have E2 : ∀ W, (binOp .eql 29 (.agg #[.bool q1, .int .i64 q2, .string (bstr q3), .int .i64 q4, .int .i64 q5]) (.agg #[.bool false, .int .i64 0, .string ⟨#[]⟩, .int .i64 0, .int .i64 0])).run Try.prog W = .ok (.bool e2) W := E2
  have R1 : Hid (∀ W, Calls Try.prog 28 #[.agg #[.bool p1, .int .i64 p2, .string (bstr p3), .int .i64 p4, .int .i64 p5], .agg #[.string ⟨#[]⟩, .int .i64 t, .bool false]] W (NewPost (.bool m1) W)) := Lib.hid R1
  have R2 : Hid (∀ W, Calls Try.prog 28 #[.agg #[.bool q1, .int .i64 q2, .string (bstr q3), .int .i64 q4, .int .i64 q5], .agg #[.string ⟨#[]⟩, .int .i64 t, .bool false]] W (NewPost (.bool m2) W)) := Lib.hid R2
  unfold cellA cellV at HN
  dsimp only at HN
  have HN := Lib.hid HN
  show Calls Try.prog 17 #[.int .i64 t, .agg #[.int .i64 n, .bool b, .bool p1, .int .i64 p2, .string (bstr p3), .int .i64 p4, .int .i64 p5, .bool q1, .int .i64 q2, .string (bstr q3), .int .i64 q4, .int .i64 q5]] w (NewPost (.bool M) w)
  have B0 := Blk.new w 31 #[.int .i64 n, .bool b, .bool p1, .int .i64 p2, .string (bstr p3), .int .i64 p4, .int .i64 p5, .bool q1, .int .i64 q2, .string (bstr q3), .int .i64 q4, .int .i64 q5]
  have hb : New w (w.alloc (.cells #[.int .i64 n, .bool b, .bool p1, .int .i64 p2, .string (bstr p3), .int .i64 p4, .int .i64 p5, .bool q1, .int .i64 q2, .string (bstr q3), .int .i64 q4, .int .i64 q5] 31)) := (Below.refl _ _).alloc (Nat.le_refl _) _
  have HB0 := Lib.hid B0
  have Hb := Lib.hid hb
  obtain ⟨x0, x1, x2, x3, x4, x5, x6, x7, x8, x9, x10, x11⟩ := cells12 B0
  clear B0 hb hf1 hf2 hf3 hf4
  by_cases hr : t < 0 ∨ 3 < t ∨ n < 0 ∨ 65536 < n
  · rw [if_pos hr] at hM
    have HM := Lib.hid hM
    clear hM E1 E2
    by_cases h1 : t < 0
    all_goals try by_cases h2 : 3 < t
    all_goals try by_cases h3 : n < 0
    all_goals try (have h4 : 65536 < n := by omega)
    all_goals
      clear hr
      go_enter Try.func17, Try.ntmps17
      go_wp2
      go_ret
      exact ⟨by rw [HM.out]; rfl, Hb.out⟩
  rw [if_neg hr] at hM
  have h1 : ¬ t < 0 := by omega
  have h2 : ¬ 3 < t := by omega
  have h3 : ¬ n < 0 := by omega
  have h4 : ¬ 65536 < n := by omega
  clear hr
  cases b with
  | false =>
    rw [if_neg (by simp)] at hM
    have HM := Lib.hid hM
    clear hM
    cases e1
    all_goals
      go_enter Try.func17, Try.ntmps17
      go_wp2
      go_ret
      exact ⟨by rw [HM.out]; rfl, Hb.out⟩
  | true =>
    rw [if_pos rfl] at hM
    have HM := Lib.hid hM
    clear hM E1 E2
    go_enter Try.func17, Try.ntmps17
    go_wp2_with fail
    refine (R1.out _).mono ?_
    rintro e w1 ⟨rfl, b1⟩
    have B0 := HB0.out.below b1 HB0.out.lt
    have hl := New.trans Hb.out b1
    clear x0 x1 x2 x3 x4 x5 x6 x7 x8 x9 x10 x11 HB0 Hb b1
    obtain ⟨x0, x1, x2, x3, x4, x5, x6, x7, x8, x9, x10, x11⟩ := cells12 B0
    go_wp2_with fail
    refine (R2.out _).mono ?_
    rintro e w2 ⟨rfl, b2⟩
    replace B0 := B0.below b2 B0.lt
    replace hl := New.trans hl b2
    clear x0 x1 x2 x3 x4 x5 x6 x7 x8 x9 x10 x11 b2
    obtain ⟨x0, x1, x2, x3, x4, x5, x6, x7, x8, x9, x10, x11⟩ := cells12 B0
    cases m1 with
    | false =>
      go_wp2_with fail
      go_ret
      exact ⟨by rw [HM.out]; rfl, hl⟩
    | true =>
      cases m2 with
      | false =>
        go_wp2_with fail
        go_ret
        exact ⟨by rw [HM.out]; rfl, hl⟩
      | true =>
        have C := Lib.hid (HN.out (by trivial) (by trivial))
        go_wp2_with fail
        refine (C.out _).mono ?_
        rintro e w3 ⟨rfl, b3⟩
        go_wp2
        go_ret
        exact ⟨by rw [HM.out]; rfl, New.trans hl b3⟩

end Go.Proofs.Ythdkbfffjlkbpaa
/- The contract of hypostyleref09.one. -/

namespace Go.Proofs.Ythdkbfffjlkbpaa
open Go.RowKit Go.Hm
theorem ru64S_any {w : World} {B g : Nat} {S : St} (h : RCurS w B g S) : Calls Try.prog 43 #[.pointer (some ⟨g, 0, none⟩), .int .i64 8] w (RSPost (.returned (.int .u64 ((u64S S).1 : Int))) B g (u64S S).2 w) := by
  cases S with
  | none => exact rnum_bad (n := 8) h (.inl rfl) (by omega) (by omega)
  | some l =>
    unfold u64S
    dsimp only
    split
    · exact rnum_good 8 h ‹_› (by omega)
    · exact rnum_bad (n := 8) h (.inr (.inr (by simp; omega))) (by omega) (by omega)
def RRdPost (c : CellS) (B g : Nat) (S : St) (w : World) (e : Ending) (w' : World) : Prop := e = .returned (cellA c) ∧ RCurS w' B g S ∧ w.grownBy w' (some g)
set_option maxHeartbeats 4000000 in
set_option maxRecDepth 100000 in
theorem rone_any {w : World} {B g : Nat} {S : St} {t : Int} (h : RCurS w B g S) (ht : t = 0 ∨ t = 2 ∨ t = 3) :
    Calls Try.prog 71 #[.int .i64 t, .pointer (some ⟨g, 0, none⟩)] w (RRdPost (rdC t S).1 B g (rdC t S).2 w) := by
  have hlt := h.lt
  have hge := h.ge
  have ha : New w (w.alloc (.cells (cellV cell0).toArray 29)) := (Below.refl _ _).alloc (Nat.le_refl _) _
  have h0 := h.below ha
  have BZ : Blk (w.alloc (.cells (cellV cell0).toArray 29)) w.heap.size 29 (cellV cell0).toArray := Blk.new _ _ _
  have G0 : w.grownBy (w.alloc (.cells (cellV cell0).toArray 29)) (some g) := Far.of_new ha
  obtain ⟨X, hX⟩ : ∃ X, X = rdC t S := ⟨_, rfl⟩
  rw [← hX]
  unfold rdC at hX
  rcases ht with rfl | rfl | rfl
  · rw [if_pos rfl] at hX
    have C1 := Lib.hid (ru64S_any h0)
    have hw := i64_wrapZ (u64S_lt h.ok)
    generalize u64S S = Q at *
    obtain ⟨a, S1⟩ := Q
    dsimp only at *
    generalize i64Z a = z at *
    have HX := Lib.hid hX
    clear hX h h0 ha
    go_enter Try.func71, Try.ntmps71
    go_wp2_with fail
    refine C1.out.mono ?_
    rintro e w1 ⟨rfl, s1, g1⟩
    have hz1 := g1.size
    simp only [World.size_alloc] at hz1
    have BZ1 := BZ.grown g1 (by intro e; injection e with e; omega)
    have G1 := G0.trans g1
    go_wp2_with (refine wpList_storeG rfl 29 (.tmp 4) (.tmp 13) rfl w.heap.size _ rfl rfl BZ1 (by kernel_rfl) (by simp [cellV]) (by simp [Value.oneCell']) ?_
                 intro W5 BR G5
                 obtain ⟨s0, s1', s2, s3, s4⟩ := cells5 BR)
    have hX := HX.out
    subst hX
    exact bodyPost_ret (v := cellA (false, z, [], 0, 0)) (by simp [results, Try.results71, go_sem, s0, s1', s2, s3, s4, cellA, cellV, show bstr [] = ⟨#[]⟩ from rfl]) rfl ⟨rfl, s1.keep G5 (by omega) (by omega), grown_then G1 G5 (Nat.le_refl _)⟩
  · rw [if_neg (by decide), if_neg (by decide)] at hX
    have C1 := Lib.hid (rlenS_any (m := 65536) h0 (by omega) (by omega))
    have hle := lenS_le (m := 65536) S (by omega) h.ok
    generalize lenS 65536 S = Q at *
    obtain ⟨a, S1⟩ := Q
    dsimp only at *
    obtain ⟨Q2, hQ2⟩ : ∃ Q, Q = takeS (a : Int) S1 := ⟨_, rfl⟩
    rw [← hQ2] at hX
    have HQ2 := Lib.hid hQ2
    have HX := Lib.hid hX
    clear hX h h0 ha hQ2
    go_enter Try.func71, Try.ntmps71
    go_wp2_with fail
    refine C1.out.mono ?_
    rintro e w1 ⟨rfl, s1, g1⟩
    have hz1 := g1.size
    simp only [World.size_alloc] at hz1
    have BZ1 := BZ.grown g1 (by intro e; injection e with e; omega)
    have G1 := G0.trans g1
    have C2 := rtakeS_any (n := (a : Int)) s1 (by omega) (by omega)
    rw [← HQ2.out] at C2
    have C2 := Lib.hid C2
    clear C1 BZ G0 g1 s1
    go_wp2_with fail
    refine C2.out.mono ?_
    rintro e w2 ⟨A2, n2, c2, rfl, e2, k2, s2, g2⟩
    have hz2 := g2.size
    have BZ2 := BZ1.grown g2 (by intro e; injection e with e; omega)
    have G2 := G1.trans g2
    have q2 := run_strB (c := c2) k2.reads
    obtain ⟨x2, S2⟩ := Q2
    dsimp only at e2 k2 s2 q2
    subst e2
    clear C2 BZ1 G1 g2 HQ2
    go_wp2_with (refine wpList_storeG rfl 29 (.tmp 4) (.tmp 22) rfl w.heap.size _ rfl rfl BZ2 (by kernel_rfl) (by simp [cellV]) (by simp [Value.oneCell']) ?_
                 intro W5 BR G5
                 obtain ⟨s0, s1', s2', s3, s4⟩ := cells5 BR)
    have hX := HX.out
    subst hX
    exact bodyPost_ret (v := cellA (false, 0, x2, 0, 0)) (by simp [results, Try.results71, go_sem, s0, s1', s2', s3, s4, cellA, cellV]) rfl ⟨rfl, s2.keep G5 (by omega) (by omega), grown_then G2 G5 (Nat.le_refl _)⟩
  · rw [if_neg (by decide), if_pos rfl] at hX
    have C1 := Lib.hid (rgetS_any h0)
    have hlt1 := getS_lt h.ok
    have hok1 := getS_ok h.ok
    generalize getS S = Q at *
    obtain ⟨a, S1⟩ := Q
    dsimp only at *
    have hlt2 := getS_lt hok1
    obtain ⟨Q2, hQ2⟩ : ∃ Q, Q = getS S1 := ⟨_, rfl⟩
    rw [← hQ2] at hX hlt2
    have HQ2 := Lib.hid hQ2
    have Z1 := Lib.hid (fun (W : World) => rzag_any a W hlt1)
    have Z2 := Lib.hid (fun (W : World) => rzag_any Q2.1 W hlt2)
    have HX := Lib.hid hX
    clear hX h h0 ha hQ2
    go_enter Try.func71, Try.ntmps71
    go_wp2_with fail
    refine C1.out.mono ?_
    rintro e w1 ⟨rfl, s1, g1⟩
    have hz1 := g1.size
    simp only [World.size_alloc] at hz1
    have BZ1 := BZ.grown g1 (by intro e; injection e with e; omega)
    have G1 := G0.trans g1
    have C2 := rgetS_any s1
    rw [← HQ2.out] at C2
    have C2 := Lib.hid C2
    clear C1 BZ G0 g1 s1
    go_wp2_with fail
    refine C2.out.mono ?_
    rintro e w2 ⟨rfl, s2, g2⟩
    have hz2 := g2.size
    have BZ2 := BZ1.grown g2 (by intro e; injection e with e; omega)
    have G2 := G1.trans g2
    clear C2 BZ1 G1 g2 HQ2
    go_wp2_with fail
    refine (Z1.out _).mono ?_
    rintro e w3 ⟨rfl, rfl⟩
    go_wp2_with fail
    refine (Z2.out _).mono ?_
    rintro e w3 ⟨rfl, rfl⟩
    go_wp2_with (refine wpList_storeG rfl 29 (.tmp 4) (.tmp 32) rfl w.heap.size _ rfl rfl BZ2 (by kernel_rfl) (by simp [cellV]) (by simp [Value.oneCell']) ?_
                 intro W5 BR G5
                 obtain ⟨s0, s1', s2', s3, s4⟩ := cells5 BR)
    have hX := HX.out
    subst hX
    exact bodyPost_ret (v := cellA (false, 0, [], zag a, zag Q2.1)) (by simp [results, Try.results71, go_sem, s0, s1', s2', s3, s4, cellA, cellV, show bstr [] = ⟨#[]⟩ from rfl]) rfl ⟨rfl, s2.keep G5 (by omega) (by omega), grown_then G2 G5 (Nat.le_refl _)⟩

end Go.Proofs.Ythdkbfffjlkbpaa
/- The contract of hypostyleref09.Decode, of the types that are read cell by cell. -/

namespace Go.Proofs.Ythdkbfffjlkbpaa
open Go.RowKit Go.Hm
theorem RCurS.pushRow {w w' : World} {B g base sz n : Nat} {S : St} {e : TypeId} {v : Value} {xs : List Value} (h : RCurS w B g S) (o : w.ownsRow base e sz v n xs) (hB : B ≤ base) (hg : w.grownBy w' v.ownBlock) (he1 : e ≠ 42) : RCurS w' B g S := by
  cases hv : v.ownBlock with
  | none =>
    rw [hv] at hg
    exact h.below ((Turns.of_none (T := []) hg).new (by simp))
  | some g' =>
    obtain ⟨cs, hb⟩ := row_own o hv
    have hl := World.ownsRow.lt o g' hv
    rw [hv] at hg
    obtain ⟨cs2, hC⟩ := h.blk
    exact h.keep hg (by omega) (fun e' => by subst e'; exact Blk.ne_ hb hC he1 rfl)
set_option maxHeartbeats 1000000 in
set_option maxRecDepth 100000 in
theorem rpdecode_any {w : World} {A : Option Addr} {c m : Nat} {b : List Nat} {t : Int} {n : Nat} (h : Reads w w.heap.size 1 A m (nums .u8 b)) (h8 : ∀ x ∈ b, x < 256) (hc : m ≤ c) (hcm : c ≤ maxLen) (hm : m ≤ 140737488351232) (ht : t = 0 ∨ t = 2 ∨ t = 3) (hn : n ≤ 65536) :
    Calls Try.prog 45 #[.int .i64 t, .slice A m c, .int .i64 (n : Int)] w (PDec t b (n : Int) w) := by
  obtain rfl : m = b.length := h.len
  have RC := RCurS.new h hc hcm h8
  have hb0 : Below w.heap.size w (w.alloc (.cells #[.slice A b.length c, .bool false] 42)) := (Below.refl _ w).alloc (Nat.le_refl _) _
  have q1 : ¬ t < 0 := by omega
  have q2 : ¬ 3 < t := by omega
  have q3 : ¬ (65536 : Int) < (n : Int) := by omega
  have t1 : (t == 1) = false := beq_eq_false_iff_ne.2 (by omega)
  have H8 := Lib.hid h8
  have HT := Lib.hid ht
  clear h h8
  go_enter Try.func45, Try.ntmps45
  go_wp2_with fail
  go_loopw [8, 13] (fun v i wr => ∃ (k : Nat) (out : List CellS) (S : St) (AA : Option Addr) (cc : Nat), k ≤ n ∧ out.length = k ∧ i = .int .i64 (k : Int) ∧ v = .slice AA k cc ∧ wr.ownsRow w.heap.size 29 5 (.slice AA k cc) k (recs cellV out) ∧ RCurS wr w.heap.size w.heap.size S ∧ Below w.heap.size w wr ∧ Hid (rdL t n (some b) = (out ++ (rdL t (n - k) S).1, (rdL t (n - k) S).2)) ∧ Hid (∀ c ∈ out, cellData c)) (fun _ i _ => n - (intOf i).toNat)
  case atStart => exact ⟨0, [], some b, none, 0, Nat.zero_le _, rfl, rfl, rfl, by simpa [recs] using row_nil, RC, hb0, Lib.hid (by simp), Lib.hid (by simp)⟩
  case round =>
    obtain ⟨k, out, S, AA, cc, hk, hol, rfl, rfl, o, hs, hbl, hrd, hda⟩ := hrel
    have hz := hbl.size
    have hbad := hs.is
    have hb8 : St.ok (some b) := St.ok_some H8.out
    by_cases hgo : k < n ∧ S ≠ none
    · obtain ⟨hlt, hSn⟩ := hgo
      obtain ⟨s, rfl⟩ := Option.ne_none_iff_exists'.1 hSn
      have hok := hs.ok
      simp only [Option.isNone_some] at hbad
      have RD := Lib.hid (rone_any hs HT.out)
      have hdat := rd_data (t := t) hok
      have hst := hrd.out
      rw [show n - k = (n - (k + 1)) + 1 by omega, rdL] at hst
      dsimp only at hst
      obtain ⟨cs, hT⟩ := hs.blk
      have o' := o
      generalize rdC t (some s) = R at *
      obtain ⟨⟨y0, y1, y2, y3, y4⟩, S2⟩ := R
      dsimp only at *
      have HST := Lib.hid hst
      have HDT := Lib.hid hdat
      have HOL := Lib.hid hol
      have hlt' : (k : Int) < (n : Int) := by omega
      clear hst hdat hrd hSn hs hok hol
      go_wp2_with fail
      refine RD.out.mono ?_
      rintro e w3 ⟨rfl, s3, g3⟩
      rw [show cellA (y0, y1, y2, y3, y4) = .agg #[.bool y0, .int .i64 y1, .string (bstr y2), .int .i64 y3, .int .i64 y4] from rfl]
      have o3 := World.ownsRow.kept o' g3 (.inr (row_blk_ne o' hT (by decide)))
      have b3 : Below w.heap.size w w3 := hbl.grown g3 hz (fun k e => by injection e with e; omega)
      have hz3 := b3.size
      have S3 := Lib.hid s3
      clear hbad RD o o' g3 hbl s3 hT
      go_wp2_with (refine wpList_pushR elC9 rfl (.tmp 70) (.tmp 74) rfl (W := w) (B := w.heap.size) (base := w.heap.size) (n := k) o3 rfl rfl b3 (Nat.le_refl _) hz3 rfl (by simp [Value.oneCell']) (by omega) (by simp only [maxLen]; omega) ?_
                   intro A5 c5 w5 _ _ o5 g5 b5 _ _)
      have s5 := S3.out.pushRow o3 (Nat.le_refl _) g5 (by decide)
      go_roundw
      case rel => exact ⟨k + 1, out ++ [(y0, y1, y2, y3, y4)], S2, A5, c5, by omega, by rw [List.length_append, HOL.out]; rfl, by go_num, rfl, by rw [recs_append]; simpa [recs, cellV] using o5, s5, b5, Lib.hid (by rw [HST.out, List.append_assoc]; rfl), Lib.hid (fun c hc => by
          rcases List.mem_append.1 hc with hc | hc
          · exact hda.out c hc
          · rw [List.mem_singleton.1 hc]; exact HDT.out)⟩
      case measure => simp [intOf]; omega
    · have hfin : rdL t n (some b) = (out, S) := by
        rw [hrd.out]
        by_cases hkn : k < n
        · have : S = none := Classical.byContradiction fun e => hgo ⟨hkn, e⟩
          subst this
          rw [rdL_none, List.append_nil]
        · rw [show n - k = 0 by omega]
          simp [rdL]
      have hI := isPl_fin HT.out hn hb8 hfin hda.out
      have EN := Lib.hid (rendS_any hs)
      have AR := Lib.hid (rfine_any (t := t) (c := cc) (Reads.of_own o) (fun y hy => (hda.out y hy).1.1) (by omega))
      have hfe : plOk t out = (out.all fun c => rightB c t false) := by
        rw [Bool.eq_iff_iff, plOk_iff, List.all_eq_true]
        have := HT.out
        exact ⟨fun e => e.2, fun e => ⟨by omega, e⟩⟩
      rw [hfe] at AR
      have HI := Lib.hid hI
      clear hI hfin hrd hs hfe
      by_cases hkn : k < n
      · have hSn : S = none := Classical.byContradiction fun e => hgo ⟨hkn, e⟩
        subst hSn
        have hI := HI.out
        rw [if_neg (by simp)] at hI
        have HI := Lib.hid hI
        rw [show endS none = false from rfl] at EN
        simp only [Option.isNone_none] at hbad
        have hkn' : (k : Int) < (n : Int) := by omega
        clear hI hgo
        go_wp2_with fail
        refine EN.out.mono ?_
        rintro e w2 ⟨rfl, rfl⟩
        go_wp2_with fail
        refine AR.out.mono ?_
        rintro e w3 ⟨rfl, b3⟩
        go_wp2_with fail
        go_ret2
        exact ⟨none, HI.out, rfl, New.trans hbl b3⟩
      · obtain rfl : k = n := by omega
        clear hgo hbad
        go_wp2_with fail
        refine EN.out.mono ?_
        rintro e w2 ⟨rfl, rfl⟩
        go_wp2_with fail
        refine AR.out.mono ?_
        rintro e w3 ⟨rfl, b3⟩
        have o3 := row_later o b3
        have hl := New.trans hbl b3
        by_cases hS : S = some []
        · have hI := HI.out
          rw [show endS S = true from decide_eq_true hS]
          cases hall : (out.all fun c => rightB c t false) with
          | true =>
            rw [if_pos ⟨hS, hall⟩] at hI
            have HI := Lib.hid hI
            clear hI EN AR
            go_wp2_with fail
            go_ret2
            exact ⟨some out, HI.out, _, _, _, rfl, o3, hl⟩
          | false =>
            rw [if_neg (by rw [hall]; simp)] at hI
            have HI := Lib.hid hI
            clear hI EN AR
            go_wp2_with fail
            go_ret2
            exact ⟨none, HI.out, rfl, hl⟩
        · have hI := HI.out
          rw [if_neg (fun e => hS e.1)] at hI
          have HI := Lib.hid hI
          rw [show endS S = false from decide_eq_false hS]
          clear hI AR hS EN
          go_wp2_with fail
          go_ret2
          exact ⟨none, HI.out, rfl, hl⟩

end Go.Proofs.Ythdkbfffjlkbpaa
/- The contract of hypostyleref09.Decode, of every type. -/

namespace Go.Proofs.Ythdkbfffjlkbpaa
open Go.RowKit Go.Hm
set_option maxHeartbeats 1000000 in
set_option maxRecDepth 100000 in
theorem rpdecode1 {w : World} {A : Option Addr} {c m : Nat} {b : List Nat} {n : Nat} (h : Reads w w.heap.size 1 A m (nums .u8 b)) (h8 : ∀ x ∈ b, x < 256) (hm : m ≤ 140737488351232) (hn : n ≤ 65536) :
    Calls Try.prog 45 #[.int .i64 1, .slice A m c, .int .i64 (n : Int)] w (PDec 1 b (n : Int) w) := by
  obtain rfl : m = b.length := h.len
  have U := Lib.hid (runpack_any (c := c) 1 (n : Int) h h8 (by omega) (by omega) (by omega) (by omega) (by omega))
  have hpu := fun l => pack_unpack (l := l) (x := 1) (n := (n : Int)) h8
  have hI := isPl_bits (n := (n : Int)) h8
  have q3 : ¬ (65536 : Int) < (n : Int) := by omega
  clear h h8
  generalize unpackO b 1 (n : Int) = O at *
  cases O with
  | none =>
    have HI := Lib.hid hI
    clear hI hpu
    go_enter Try.func45, Try.ntmps45
    go_wp2_with fail
    refine U.out.mono ?_
    rintro e w1 ⟨rfl, b1⟩
    go_wp2_with fail
    refine wp_loop_rounds 1 ?_
    rw [rounds_succ]
    go_wp2_with fail
    go_ret2
    exact ⟨none, HI.out, rfl, b1⟩
  | some l =>
    obtain ⟨-, hlen, hw, hk, hf⟩ := hpu l rfl
    have h2 : ∀ x ∈ l, x < 2 := by
      have := (wid_iff l 1 (by omega) hk).1 (by omega)
      simpa using this
    have H2 := Lib.hid h2
    have HI := Lib.hid hI
    clear hpu hlen hw hk h2 hI
    go_enter Try.func45, Try.ntmps45
    go_wp2_with fail
    refine U.out.mono ?_
    rintro e w1 ⟨A1, n1, c1, rfl, k1, b1⟩
    obtain rfl : n1 = l.length := by have := k1.len; rwa [nums_length] at this
    have hz1 := b1.size
    have R1 := Lib.hid k1.reads
    clear U k1
    go_wp2_with fail
    go_loopw [8, 11] (fun v i wr => ∃ (k cc : Nat) (AA : Option Addr), k ≤ l.length ∧ i = .int .i64 (k : Int) ∧ v = .slice AA k cc ∧ wr.ownsRow w1.heap.size 29 5 (.slice AA k cc) k (recs cellV ((l.take k).map bitC)) ∧ New w1 wr) (fun _ i _ => l.length - (intOf i).toNat)
    case atStart => exact ⟨0, 0, none, Nat.zero_le _, rfl, rfl, by simpa [recs] using row_nil, New.refl _⟩
    case round =>
      obtain ⟨k, cc, AA, hk, rfl, rfl, o, hb⟩ := hrel
      by_cases hlt : k < l.length
      · obtain ⟨ax, rfl, hbx, qx⟩ := (Reads.later R1.out hb).num (i := k) hlt
        have hx2 := H2.out (l.getD k 0) (by rw [List.getD_eq_getElem?_getD, List.getElem?_eq_getElem hlt]; exact List.getElem_mem hlt)
        have htk := take_snoc l k 0 hlt
        generalize l.getD k 0 = x at *
        have hwr : IntKind.i64.wrap (x : Int) = (x : Int) := IntWalk.i64_in _ (by omega)
        have HT := Lib.hid htk
        have hz := hb.size
        clear htk
        go_wp2_with (refine wpList_pushR elC9 rfl (.tmp 44) (.tmp 51) rfl (W := w1) (B := w1.heap.size) (base := w1.heap.size) (n := k) o rfl rfl hb (Nat.le_refl _) hz rfl (by simp [Value.oneCell']) (by omega) (by simp only [maxLen]; omega) ?_
                     intro A5 c5 w5 _ _ o5 _ b5 _ _)
        go_roundw
        case rel => exact ⟨k + 1, c5, A5, by omega, by go_num, rfl, by rw [HT.out, List.map_append, recs_append]; simpa [recs, cellV, bitC, show bstr [] = ⟨#[]⟩ from rfl] using o5, b5⟩
        case measure => simp [intOf]; omega
      · obtain rfl : k = l.length := by omega
        rw [List.take_length] at o
        go_wp2_with fail
        go_ret2
        exact ⟨some (l.map bitC), HI.out, _, _, _, rfl, row_base o hz1, New.trans b1 hb⟩

end Go.Proofs.Ythdkbfffjlkbpaa
/- The contract of hypostyleref09.Decode, whatever type and number. -/

namespace Go.Proofs.Ythdkbfffjlkbpaa
open Go.RowKit Go.Hm
set_option maxHeartbeats 1000000 in
set_option maxRecDepth 100000 in
theorem rpdecode_all {w : World} {A : Option Addr} {c m : Nat} {b : List Nat} {t n : Int} (h : Reads w w.heap.size 1 A m (nums .u8 b)) (h8 : ∀ x ∈ b, x < 256) (hc : m ≤ c) (hcm : c ≤ maxLen) (hm : m ≤ 140737488351232) :
    Calls Try.prog 45 #[.int .i64 t, .slice A m c, .int .i64 n] w (PDec t b n w) := by
  by_cases hk : 0 ≤ t ∧ t ≤ 3 ∧ 0 ≤ n ∧ n ≤ 65536
  · obtain ⟨n, rfl⟩ := Int.eq_ofNat_of_zero_le hk.2.2.1
    by_cases h1 : t = 1
    · subst h1
      exact rpdecode1 h h8 hm (by omega)
    · exact rpdecode_any h h8 hc hcm hm (by omega) (by omega)
  · have HI := Lib.hid (isPl_no (b := b) hk)
    clear h h8 hc hcm
    by_cases q1 : t < 0
    all_goals try by_cases q2 : 3 < t
    all_goals try by_cases q3 : n < 0
    all_goals try (have q4 : 65536 < n := by omega)
    all_goals
      clear hk
      go_enter Try.func45, Try.ntmps45
      go_wp2
      go_ret2
      exact ⟨none, HI.out, rfl, New.refl _⟩

end Go.Proofs.Ythdkbfffjlkbpaa
/- The contract of hypostyleref15.Get. -/

namespace Go.Proofs.Ythdkbfffjlkbpaa
open Go.RowKit Go.Hm
theorem plD_len {t : Int} {b : List Nat} {l : List CellS} (h : plD t b 2 = some l) : b ≠ [] ∧ b.length ≤ 131112 ∧ ∃ p q, l = [p, q] := by
  obtain ⟨-, hl, h3⟩ := plD_some h
  obtain ⟨h4, h5⟩ := plO_iff.1 h3
  obtain ⟨⟨h6, h7, -⟩, h8⟩ := plOk_iff.1 h4
  match l, hl with
  | [p, q], _ =>
    have hp := h8 p (by simp)
    have hq := h8 q (by simp)
    have a := plE_len hp
    have b' := plE_len hq
    have ta : p.2.2.1.length ≤ 65536 := right_text hp
    have tb : q.2.2.1.length ≤ 65536 := right_text hq
    refine ⟨?_, ?_, p, q, rfl⟩
    · rw [← h5]
      unfold plB
      split
      · intro e
        have := congrArg List.length e
        rw [low_len] at this
        simp at this
      · intro e
        simp only [List.flatMap_cons, List.flatMap_nil, List.append_nil, List.append_eq_nil_iff] at e
        have e1 := congrArg List.length e.1
        unfold plE at e1
        split at e1
        · rw [low_len] at e1; simp at e1
        · split at e1
          · have := vp_pos p.2.2.1.length
            simp only [List.length_append, List.length_nil] at e1
            omega
          · split at e1
            · have := vp_pos (zig p.2.2.2.1)
              simp only [List.length_append, List.length_nil] at e1
              omega
            · omega
    · rw [← h5]
      unfold plB
      split
      · rw [low_len]; simp
      · simp only [List.flatMap_cons, List.flatMap_nil, List.append_nil, List.length_append]
        omega
theorem plD_nil {t : Int} : plD t [] 2 = none := by
  cases h : plD t [] 2 with
  | none => rfl
  | some l => exact absurd rfl (plD_len h).1
/-- Two ends that are read with another most are the same. -/
theorem ends_same {t : Int} {S : St} (hS : S.ok) (hlS : (S.getD []).length ≤ 140737488351232) :
    (∃ p q r, plD t (takeS ((lenS 262144 S).1 : Int) (lenS 262144 S).2).1 2 = some [p, q] ∧ (takeS ((lenS 262144 S).1 : Int) (lenS 262144 S).2).2 = some r ∧ endsS t S = ((p, q), some r))
    ∨ (plD t (takeS ((lenS 262144 S).1 : Int) (lenS 262144 S).2).1 2 = none ∧ endsS t S = ((cell0, cell0), none)) := by
  have key : takeS ((lenS 262144 S).1 : Int) (lenS 262144 S).2 = takeS ((lenS ((S.getD []).length : Int) S).1 : Int) (lenS ((S.getD []).length : Int) S).2
      ∨ (plD t (takeS ((lenS 262144 S).1 : Int) (lenS 262144 S).2).1 2 = none ∧ plD t (takeS ((lenS ((S.getD []).length : Int) S).1 : Int) (lenS ((S.getD []).length : Int) S).2).1 2 = none) := by
    have hno : (takeS ((0 : Nat) : Int) none).1 = [] := rfl
    rcases lenS_cases 262144 S hS with h | ⟨N, r, rfl, h1, h2, h⟩
    · rcases lenS_cases ((S.getD []).length : Int) S hS with k | ⟨M, r', rfl, k1, k2, k⟩
      · left; rw [h, k]
      · right
        rw [h, k, hno]
        refine ⟨plD_nil, ?_⟩
        rcases takeS_cases (M : Int) (some r') with e | ⟨l, e1, e2, e3, e⟩
        · rw [e]; exact plD_nil
        · rw [e]
          injection e1 with e1
          subst e1
          cases hp : plD t (r'.take (M : Int).toNat) 2 with
          | none => rfl
          | some l =>
            have := (plD_len hp).2.1
            rw [List.length_take, Int.toNat_natCast] at this
            have hM : (M : Int) ≤ 262144 := by omega
            rw [lenS_app M r' hM (by omega)] at h
            cases h
    · by_cases hl : (N : Int) ≤ (((some (vp N ++ r) : St).getD []).length : Int)
      · left
        rw [h, lenS_app N r hl (by have := hl; simp only [Option.getD_some] at *; omega)]
      · right
        have e1 : (takeS (N : Int) (some r)).1 = [] := by
          rcases takeS_cases (N : Int) (some r) with e | ⟨l, e1, e2, e3, e⟩
          · rw [e]
          · injection e1 with e1
            subst e1
            simp only [Option.getD_some, List.length_append] at hl
            omega
        rcases lenS_cases (((some (vp N ++ r) : St).getD []).length : Int) (some (vp N ++ r)) hS with k | ⟨M, r', e, k1, k2, k⟩
        · rw [h, k, hno]
          refine ⟨?_, plD_nil⟩
          dsimp only
          rw [e1]; exact plD_nil
        · exfalso
          injection e with e
          rw [lenS_app N r h1 (by omega)] at h
          have h9 : lenS 262144 (some (vp M ++ r')) = (N, some r) := by rw [← e]; exact lenS_app N r h1 (by omega)
          by_cases hM : (M : Int) ≤ 262144
          · rw [lenS_app M r' hM (by omega)] at h9
            injection h9 with h9 _
            omega
          · omega
  rcases key with e | ⟨e1, e2⟩
  · rw [e]
    unfold endsS
    cases hp : plD t (takeS ((lenS ((S.getD []).length : Int) S).1 : Int) (lenS ((S.getD []).length : Int) S).2).1 2 with
    | none => right; exact ⟨rfl, rfl⟩
    | some l =>
      obtain ⟨hn, _, p, q, rfl⟩ := plD_len hp
      left
      cases hr : (takeS ((lenS ((S.getD []).length : Int) S).1 : Int) (lenS ((S.getD []).length : Int) S).2).2 with
      | none =>
        exfalso
        rcases takeS_cases ((lenS ((S.getD []).length : Int) S).1 : Int) (lenS ((S.getD []).length : Int) S).2 with k | ⟨l, _, _, _, k⟩
        · rw [k] at hn; exact hn rfl
        · rw [k] at hr; cases hr
      | some r => exact ⟨p, q, r, rfl, rfl, rfl⟩
  · right
    refine ⟨e1, ?_⟩
    unfold endsS
    rw [e2]
def RSGet (s : StatS) (B g : Nat) (S : St) (w : World) (e : Ending) (w' : World) : Prop := e = .returned (statA s) ∧ RCurS w' B g S ∧ w.grownBy w' (some g)

end Go.Proofs.Ythdkbfffjlkbpaa
/- The contract of hypostyleref15.Get, walked. -/

namespace Go.Proofs.Ythdkbfffjlkbpaa
open Go.RowKit Go.Hm
set_option maxHeartbeats 4000000 in
set_option maxRecDepth 100000 in
theorem rstget_any {w : World} {B g : Nat} {S : St} {t : Int} (h : RCurS w B g S) (hl : (S.getD []).length ≤ 140737488351232) :
    Calls Try.prog 22 #[.pointer (some ⟨g, 0, none⟩), .int .i64 t] w (RSGet (getA t S).1 B g (getA t S).2 w) := by
  obtain ⟨X, hX⟩ : ∃ X, X = getA t S := ⟨_, rfl⟩
  rw [← hX]
  unfold getA rawS at hX
  have hle := lenS_le (m := 65536) S (by omega) h.ok
  have hok1 := lenS_ok (m := 65536) h.ok
  have hsub := lenS_sub (m := 65536) h.ok
  have hlt := h.lt
  have hge := h.ge
  have ha : New w ((w.alloc (.cells (statV stat0).toArray 31)).alloc (.cells (statV stat0).toArray 31)) := ((Below.refl _ _).alloc (Nat.le_refl _) _).alloc (by simp) _
  have h0 := h.below ha
  have L1 := Lib.hid (rlenS_any (m := 65536) h0 (by omega) (by omega))
  have BZ0 : Blk ((w.alloc (.cells (statV stat0).toArray 31)).alloc (.cells (statV stat0).toArray 31)) w.heap.size 31 (statV stat0).toArray := (Blk.new _ _ _).alloc _
  have BT0 : Blk ((w.alloc (.cells (statV stat0).toArray 31)).alloc (.cells (statV stat0).toArray 31)) (w.heap.size + 1) 31 (statV stat0).toArray := by
    have := Blk.new (w.alloc (.cells (statV stat0).toArray 31)) 31 (statV stat0).toArray
    rwa [World.size_alloc] at this
  generalize lenS 65536 S = H at *
  obtain ⟨n, S1⟩ := H
  dsimp only at *
  have hsub2 := byteS_sub (S := S1)
  have hbl := byteS_lt hok1
  have hok2 := byteS_ok hok1
  have HX := Lib.hid hX
  clear h hX
  go_enter Try.func22, Try.ntmps22
  go_wp2_with fail
  refine L1.out.mono ?_
  rintro e w1 ⟨rfl, s1, g1⟩
  have hz1 := g1.size
  simp only [World.size_alloc] at hz1
  have BZ1 := BZ0.grown g1 (by intro e; injection e with e; omega)
  have BT1 := BT0.grown g1 (by intro e; injection e with e; omega)
  have G1 := (Far.of_new ha (g := g)).trans g1
  obtain ⟨x0, x1, x2, x3, x4, x5, x6, x7, x8, x9, x10, x11⟩ := cells12 BT1
  have f0 := BT1.frozen 0
  have gS : w1.grownBy (w1.setCell ⟨w.heap.size + 1, 0, none⟩ (.int .i64 (n : Int))) (some (w.heap.size + 1)) := setCell_grown
  have hzS : w1.heap.size ≤ (w1.setCell ⟨w.heap.size + 1, 0, none⟩ (.int .i64 (n : Int))).heap.size := gS.size
  have s1 := s1.keep gS (by omega) (by omega)
  have BT2 := BT1.set_ 0 (.int .i64 (n : Int))
  simp only [statV, stat0, cellV, cell0, List.cons_append, List.nil_append, List.setIfInBounds_toArray, List.set_cons_zero] at BT2
  have BZ2 := BZ1.grown gS (by intro e; injection e with e; omega)
  have G2 := grown_then G1 gS (by omega)
  have C2 := Lib.hid (rbyteS_any s1)
  clear L1 h0 BZ0 BT0 g1 ha G1 BZ1 BT1 gS
  generalize byteS S1 = Bq at *
  obtain ⟨y, S2⟩ := Bq
  dsimp only at *
  go_wp2_with fail
  refine C2.out.mono ?_
  rintro e w2 ⟨rfl, s2, g2⟩
  have hz2 := g2.size
  have BZ3 := BZ2.grown g2 (by intro e; injection e with e; omega)
  have BT3 := BT2.grown g2 (by intro e; injection e with e; omega)
  have G3 := G2.trans g2
  clear C2 BZ2 BT2 G2 g2 x0 x1 x2 x3 x4 x5 x6 x7 x8 x9 x10 x11 f0 s1
  obtain ⟨x0, x1, x2, x3, x4, x5, x6, x7, x8, x9, x10, x11⟩ := cells12 BT3
  have f1 := BT3.frozen 1
  by_cases hy : y = 1
  · subst hy
    have y1 : (((1 : Nat) : Int) == 1) = true := rfl
    have gS : w2.grownBy (w2.setCell ⟨w.heap.size + 1, 1, none⟩ (.bool true)) (some (w.heap.size + 1)) := setCell_grown
    have hzS2 : w2.heap.size ≤ (w2.setCell ⟨w.heap.size + 1, 1, none⟩ (.bool true)).heap.size := gS.size
    have s3 := s2.keep gS (by omega) (by omega)
    have BT4 := BT3.set_ 1 (.bool true)
    simp only [List.setIfInBounds_toArray, List.set_cons_zero, List.set_cons_succ] at BT4
    have BZ4 := BZ3.grown gS (by intro e; injection e with e; omega)
    have G4 := grown_then G3 gS (by omega)
    have L2 := Lib.hid (rlenS_any (m := 262144) s3 (by omega) (by omega))
    have hE := ends_same (t := t) hok2 (by omega)
    have hle3 := lenS_le (m := 262144) S2 (by omega) hok2
    have hok3 := lenS_ok (m := 262144) hok2
    clear BZ3 BT3 G3 gS
    generalize lenS 262144 S2 = H3 at *
    obtain ⟨m, S3⟩ := H3
    dsimp only at *
    have htl := takeS_len (n := (m : Int)) (S := S3) (by omega)
    have htk := takeS_ok (n := (m : Int)) hok3
    go_wp2_with fail
    refine L2.out.mono ?_
    rintro e w3 ⟨rfl, s4, g4⟩
    have hz4 := g4.size
    have BZ5 := BZ4.grown g4 (by intro e; injection e with e; omega)
    have BT5 := BT4.grown g4 (by intro e; injection e with e; omega)
    have G5 := G4.trans g4
    have T1 := Lib.hid (rtakeS_any (n := (m : Int)) s4 (by omega) (by omega))
    clear L2 BZ4 BT4 G4 g4 s3 s4 x0 x1 x2 x3 x4 x5 x6 x7 x8 x9 x10 x11 f1
    generalize takeS (m : Int) S3 = Q at *
    obtain ⟨x, S4⟩ := Q
    dsimp only at *
    go_wp2_with fail
    refine T1.out.mono ?_
    rintro e w4 ⟨A2, n2, c2, rfl, rfl, o2, s4, g4⟩
    have hz5 := g4.size
    have BZ6 := BZ5.grown g4 (by intro e; injection e with e; omega)
    have BT6 := BT5.grown g4 (by intro e; injection e with e; omega)
    have G6 := G5.trans g4
    have PD := Lib.hid (rpdecode_all (t := t) (n := 2) o2.reads htk.2 o2.cap.1 o2.cap.2 (by omega))
    clear T1 BZ5 BT5 G5 g4 o2
    go_wp2_with fail
    refine PD.out.mono ?_
    rintro e w5 ⟨o, ho, h3⟩
    have ho := isPl_is ho
    rw [← ho] at hE
    cases o with
    | none =>
      obtain ⟨rfl, b5⟩ := h3
      have hz6 := b5.size
      have hEn : endsS t S2 = ((cell0, cell0), none) := by
        rcases hE with ⟨p, q, r, e, _⟩ | ⟨_, e⟩
        · cases e
        · exact e
      have hX := HX.out
      simp only [if_true] at hX
      rw [hEn] at hX
      dsimp only at hX
      rw [if_neg (by simp)] at hX
      clear HX
      have HX := Lib.hid hX
      have BZ7 := BZ6.below b5 BZ6.lt
      have G7 := G6.trans (Far.of_new b5)
      have s7 := s4.below b5
      have is7 := s7.is
      clear PD BZ6 BT6 G6 b5 s4 ho hX hE hEn
      generalize S4.isNone = bI at *
      cases bI
      all_goals
        have F := Lib.hid (rfailS s7)
        go_wp2_with fail
        refine F.out.mono ?_
        rintro e w8 ⟨rfl, s8, g8⟩
        have hz8 := g8.size
        have BZ := BZ7.grown g8 (by intro e; injection e with e; omega)
        have GG := Lib.hid (G7.trans g8)
        have HS := Lib.hid s8
        clear F g8 s8
        go_wp2_with (refine wpList_storeG rfl 31 (.tmp 4) (.tmp 41) rfl w.heap.size _ rfl rfl BZ (by kernel_rfl) (by simp [statV, stat0, cellV]) (by simp [Value.oneCell']) ?_
                     intro W9 BR G9
                     obtain ⟨s0, s1, s2, s3, s4, s5, s6, s7, s8, s9, s10, s11⟩ := cells12 BR)
        have hX := HX.out
        subst hX
        exact bodyPost_ret (v := statA stat0) (by simp [results, Try.results22, go_sem, s0, s1, s2, s3, s4, s5, s6, s7, s8, s9, s10, s11, statA, statV, cellV, stat0, cell0, show bstr [] = ⟨#[]⟩ from rfl]) rfl ⟨rfl, HS.out.keep G9 (by omega) (by omega), grown_then GG.out G9 (Nat.le_refl _)⟩
    | some l =>
      obtain ⟨A3, n3, c3, rfl, o3, b5⟩ := h3
      have hz6 := b5.size
      obtain ⟨p, q, r, e1, e2, hEn⟩ : ∃ p q r, l = [p, q] ∧ S4 = some r ∧ endsS t S2 = ((p, q), some r) := by
        rcases hE with ⟨p, q, r, e, e2, e3⟩ | ⟨e, _⟩
        · injection e with e
          exact ⟨p, q, r, e, e2, e3⟩
        · cases e
      subst e1 e2
      have HD := endsS_data t S2
      have hX := HX.out
      simp only [if_true] at hX
      rw [hEn] at hX
      rw [hEn] at HD
      dsimp only at hX HD
      clear HX ho hE hEn
      have r3 := Reads.of_own o3
      obtain rfl : n3 = 2 := by have := r3.lenCell; simpa using this
      obtain ⟨ad, rfl, hb, -⟩ := r3.cell5 (i := 0) (by omega)
      have SR := fun (W : World) => rsright_any (w := W) (t := t) (s := ((n : Int), true, p, q)) ⟨HD.1.1, HD.2.1⟩
      have HF := Lib.hid (fun (W : World) (hW : Turns [w.heap.size + 1] w5 W) => row2_cells (row_touch o3 hW (by simp; omega)))
      obtain ⟨p0, p1, p2, p3, p4⟩ := p
      obtain ⟨q0, q1, q2, q3, q4⟩ := q
      dsimp only at HF
      generalize rightS t ((n : Int), true, (p0, p1, p2, p3, p4), (q0, q1, q2, q3, q4)) = R at *
      have SR : Hid (∀ W, Calls Try.prog 17 #[.int .i64 t, .agg #[.int .i64 (n : Int), .bool true, .bool p0, .int .i64 p1, .string (bstr p2), .int .i64 p3, .int .i64 p4, .bool q0, .int .i64 q1, .string (bstr q2), .int .i64 q3, .int .i64 q4]] W (NewPost (.bool R) W)) := Lib.hid SR
      have HX := Lib.hid hX
      have BZ7 := BZ6.below b5 BZ6.lt
      have BT7 := BT6.below b5 BT6.lt
      have G7 := G6.trans (Far.of_new b5)
      have s7 := s4.below b5
      have is7 := s7.is
      obtain ⟨⟨d0, d1, d2, d3, d4⟩, -⟩ := HF.out w5 (Turns.refl _ _)
      clear PD BZ6 BT6 G6 b5 s4 hX HD o3 r3
      simp only [Option.isNone_some] at is7
      go_wp2_with (first
        | (refine wpList_store5G rfl 29 (.tmp 45) (.tmp 44) rfl (w.heap.size + 1) 2 rfl rfl BT7 (by simp) (by kernel_rfl) (by simp [Value.oneCell']) ?_
           intro W5 BT8 G8
           simp only [List.setIfInBounds_toArray, List.set_cons_zero, List.set_cons_succ] at BT8
           obtain ⟨-, d5, d6, d7, d8, d9⟩ := HF.out W5 (Turns.of_far G8 (by simp)))
        | (refine wpList_store5G rfl 29 (.tmp 49) (.tmp 48) rfl (w.heap.size + 1) 7 rfl rfl BT8 (by simp) (by kernel_rfl) (by simp [Value.oneCell']) ?_
           intro W6 BT9 G9
           simp only [List.setIfInBounds_toArray, List.set_cons_zero, List.set_cons_succ] at BT9
           have hz7 := G8.size
           have hz8 := G9.size
           have s9 := (s7.keep G8 (by omega) (by omega)).keep G9 (by omega) (by omega)
           have BZ9 := (BZ7.grown G8 (by intro e; injection e with e; omega)).grown G9 (by intro e; injection e with e; omega)
           have GG9 := grown_then (grown_then G7 G8 (by omega)) G9 (by omega)
           clear BT7 BT8 G8 G9 s7 BZ7 G7 is7 d0 d1 d2 d3 d4 d5 d6 d7 d8 d9
           obtain ⟨z0, z1, z2, z3, z4, z5, z6, z7, z8, z9, z10, z11⟩ := cells12 BT9))
      refine (SR.out _).mono ?_
      rintro e w7 ⟨rfl, b7⟩
      have hz9 := b7.size
      have BZ10 := BZ9.below b7 BZ9.lt
      have BT10 := BT9.below b7 BT9.lt
      have G10 := GG9.trans (Far.of_new b7)
      have s10 := s9.below b7
      have is10 := s10.is
      simp only [Option.isNone_some] at is10
      have t1 : decide ((1 : Int) < ((1 : Nat) : Int)) = false := by simp
      clear BZ9 BT9 GG9 b7 s9 SR z0 z1 z2 z3 z4 z5 z6 z7 z8 z9 z10 z11
      obtain ⟨z0, z1, z2, z3, z4, z5, z6, z7, z8, z9, z10, z11⟩ := cells12 BT10
      have hX := HX.out
      clear HX
      cases R with
      | false =>
        rw [if_neg (by simp)] at hX
        have HX := Lib.hid hX
        clear hX
        have F := Lib.hid (rfailS s10)
        go_wp2_with fail
        refine F.out.mono ?_
        rintro e w8 ⟨rfl, s8, g8⟩
        have hz8 := g8.size
        have BZ := BZ10.grown g8 (by intro e; injection e with e; omega)
        have GG := Lib.hid (G10.trans g8)
        have HS := Lib.hid s8
        clear F g8 s8
        go_wp2_with (refine wpList_storeG rfl 31 (.tmp 4) (.tmp 67) rfl w.heap.size _ rfl rfl BZ (by kernel_rfl) (by simp [statV, stat0, cellV]) (by simp [Value.oneCell']) ?_
                     intro W9 BR G9
                     obtain ⟨s0, s1, s2, s3, s4, s5, s6, s7, s8, s9, s10, s11⟩ := cells12 BR)
        have hX := HX.out
        subst hX
        exact bodyPost_ret (v := statA stat0) (by simp [results, Try.results22, go_sem, s0, s1, s2, s3, s4, s5, s6, s7, s8, s9, s10, s11, statA, statV, cellV, stat0, cell0, show bstr [] = ⟨#[]⟩ from rfl]) rfl ⟨rfl, HS.out.keep G9 (by omega) (by omega), grown_then GG.out G9 (Nat.le_refl _)⟩
      | true =>
        rw [if_pos ⟨by omega, by simp, by trivial⟩] at hX
        have HX := Lib.hid hX
        have GG := Lib.hid G10
        have HS := Lib.hid s10
        clear hX
        go_wp2_with (refine wpList_storeG rfl 31 (.tmp 4) (.tmp 68) rfl w.heap.size _ rfl rfl BZ10 (by kernel_rfl) (by simp [statV, stat0, cellV]) (by simp [Value.oneCell']) ?_
                     intro W9 BR G9
                     obtain ⟨s0, s1, s2, s3, s4, s5, s6, s70, s8, s9, s11, s12⟩ := cells12 BR)
        have hX := HX.out
        subst hX
        exact bodyPost_ret (v := statA ((n : Int), true, (p0, p1, p2, p3, p4), (q0, q1, q2, q3, q4))) (by simp [results, Try.results22, go_sem, s0, s1, s2, s3, s4, s5, s6, s70, s8, s9, s11, s12, statA, statV, cellV]) rfl ⟨rfl, HS.out.keep G9 (by omega) (by omega), grown_then GG.out G9 (Nat.le_refl _)⟩
  · have y1 : ((y : Int) == 1) = false := beq_eq_false_iff_ne.2 (by omega)
    have gS : w2.grownBy (w2.setCell ⟨w.heap.size + 1, 1, none⟩ (.bool false)) (some (w.heap.size + 1)) := setCell_grown
    have hzS2 : w2.heap.size ≤ (w2.setCell ⟨w.heap.size + 1, 1, none⟩ (.bool false)).heap.size := gS.size
    have s3 := s2.keep gS (by omega) (by omega)
    have BT4 := BT3.set_ 1 (.bool false)
    simp only [List.setIfInBounds_toArray, List.set_cons_zero, List.set_cons_succ] at BT4
    have BZ4 := BZ3.grown gS (by intro e; injection e with e; omega)
    have G4 := grown_then G3 gS (by omega)
    have SR := fun (W : World) => rsright_any (w := W) (t := t) (s := ((n : Int), false, cell0, cell0)) (by unfold statFine cell0; simp)
    have hX := HX.out
    rw [if_neg hy] at hX
    dsimp only at hX
    generalize rightS t ((n : Int), false, cell0, cell0) = R at *
    have SR : Hid (∀ W, Calls Try.prog 17 #[.int .i64 t, .agg #[.int .i64 (n : Int), .bool false, .bool false, .int .i64 0, .string ⟨#[]⟩, .int .i64 0, .int .i64 0, .bool false, .int .i64 0, .string ⟨#[]⟩, .int .i64 0, .int .i64 0]] W (NewPost (.bool R) W)) := Lib.hid SR
    clear HX BZ3 BT3 G3 gS s2
    have HX := Lib.hid hX
    clear hX
    go_wp2_with fail
    refine (SR.out _).mono ?_
    rintro e w7 ⟨rfl, b7⟩
    have hz9 := b7.size
    have BZ10 := BZ4.below b7 BZ4.lt
    have BT10 := BT4.below b7 BT4.lt
    have G10 := G4.trans (Far.of_new b7)
    have s10 := s3.below b7
    have is10 := s10.is
    clear BZ4 BT4 G4 b7 s3 SR x0 x1 x2 x3 x4 x5 x6 x7 x8 x9 x10 x11 f1
    obtain ⟨z0, z1, z2, z3, z4, z5, z6, z7, z8, z9, z10, z11⟩ := cells12 BT10
    by_cases hgo : y ≤ 1 ∧ S2 ≠ none ∧ R = true
    · obtain ⟨hy1, hS2, rfl⟩ := hgo
      obtain rfl : y = 0 := by omega
      cases S2 with
      | none => exact absurd rfl hS2
      | some S2 =>
        have hX := HX.out
        rw [if_pos ⟨by omega, by simp, by trivial⟩] at hX
        have t1 : decide ((1 : Int) < ((0 : Nat) : Int)) = false := by simp
        simp only [Option.isNone_some] at is10
        clear HX
        have HX := Lib.hid hX
        have GG := Lib.hid G10
        have HS := Lib.hid s10
        clear hX
        go_wp2_with (refine wpList_storeG rfl 31 (.tmp 4) (.tmp 68) rfl w.heap.size _ rfl rfl BZ10 (by kernel_rfl) (by simp [statV, stat0, cellV]) (by simp [Value.oneCell']) ?_
                     intro W9 BR G9
                     obtain ⟨s0, s1, s2, s3, s4, s5, s6, s70, s8, s9, s11, s12⟩ := cells12 BR)
        have hX := HX.out
        subst hX
        exact bodyPost_ret (v := statA ((n : Int), false, cell0, cell0)) (by simp [results, Try.results22, go_sem, s0, s1, s2, s3, s4, s5, s6, s70, s8, s9, s11, s12, statA, statV, cellV, cell0, show bstr [] = ⟨#[]⟩ from rfl]) rfl ⟨rfl, HS.out.keep G9 (by omega) (by omega), grown_then GG.out G9 (Nat.le_refl _)⟩
    · have hX := HX.out
      rw [if_neg hgo] at hX
      clear HX
      have HX := Lib.hid hX
      clear hX
      have hN : S2.isNone = true ∨ decide ((1 : Int) < (y : Int)) = true ∨ R = false := by
        by_cases a : S2 = none
        · exact .inl (by rw [a]; rfl)
        · by_cases b : y ≤ 1
          · exact .inr (.inr (by cases R <;> simp_all))
          · exact .inr (.inl (by simp; omega))
      clear hgo
      generalize S2.isNone = bI at *
      generalize tY : decide ((1 : Int) < (y : Int)) = bY at *
      cases bI <;> cases bY <;> cases R
      all_goals first
        | (exfalso; simp at hN; done)
        | skip
      all_goals
        clear hN
        have F := Lib.hid (rfailS s10)
        go_wp2_with fail
        refine F.out.mono ?_
        rintro e w8 ⟨rfl, s8, g8⟩
        have hz8 := g8.size
        have BZ := BZ10.grown g8 (by intro e; injection e with e; omega)
        have GG := Lib.hid (G10.trans g8)
        have HS := Lib.hid s8
        clear F g8 s8
        go_wp2_with (refine wpList_storeG rfl 31 (.tmp 4) (.tmp 67) rfl w.heap.size _ rfl rfl BZ (by kernel_rfl) (by simp [statV, stat0, cellV]) (by simp [Value.oneCell']) ?_
                     intro W9 BR G9
                     obtain ⟨s0, s1, s2, s3, s4, s5, s6, s7, s8, s9, s10, s11⟩ := cells12 BR)
        have hX := HX.out
        subst hX
        exact bodyPost_ret (v := statA stat0) (by simp [results, Try.results22, go_sem, s0, s1, s2, s3, s4, s5, s6, s7, s8, s9, s10, s11, statA, statV, cellV, stat0, cell0, show bstr [] = ⟨#[]⟩ from rfl]) rfl ⟨rfl, HS.out.keep G9 (by omega) (by omega), grown_then GG.out G9 (Nat.le_refl _)⟩

end Go.Proofs.Ythdkbfffjlkbpaa
/- The contract of hypostyleref15.Put. -/

namespace Go.Proofs.Ythdkbfffjlkbpaa
open Go.RowKit Go.Hm
theorem madeB (w : World) (e : TypeId) : Go.Hm.Own (w.alloc (.cells #[] e)) w.heap.size e (.slice (some ⟨w.heap.size, 0, none⟩) 0 0) [] :=
  ⟨by simp, .inr ⟨w.heap.size, 0, #[], rfl, Nat.le_refl _, heap_alloc_new w _, Nat.le_refl _, by simp [maxLen], by simp, by simp⟩⟩
set_option maxHeartbeats 4000000 in
set_option maxRecDepth 100000 in
theorem rsput_any {w : World} {A : Option Addr} {n c : Nat} {l : List Nat} {t : Int} {s : StatS} (h : Reads w w.heap.size 1 A n (nums .u8 l)) (hn : n ≤ 100000000) (hs : statData s) :
    Calls Try.prog 19 #[.slice A n c, .int .i64 t, statA s] w (BytesPost (putS l t s) w) := by
  obtain rfl : n = l.length := h.len
  have SR := fun (W : World) => rsright_any (w := W) (t := t) hs.fine
  have hrn := fun (e : rightS t s = true) => rightS_n e
  have PE := fun (e : rightS t s = true) (eh : s.2.1 = true) (W : World) => rplain_any (t := t) (c := 2) (Reads.litR W 29 (cellV s.2.2.1 ++ cellV s.2.2.2).toArray 2 5 (recs cellV [s.2.2.1, s.2.2.2]) (by simp [recs]) (by simp [recs, cellV])) (fun y hy => by simp at hy; rcases hy with rfl | rfl; exact hs.1; exact hs.2) (by omega)
  have pe2 := fun (e : rightS t s = true) (eh : s.2.1 = true) => (show plO t [s.2.2.1, s.2.2.2] = some (endsL t s) by unfold plO endsL; rw [if_pos (ends_ok e eh)])
  have hel := fun (e : rightS t s = true) (eh : s.2.1 = true) => ends_len e eh
  obtain ⟨M, hM⟩ : ∃ M, M = putS l t s := ⟨_, rfl⟩
  rw [← hM]
  unfold putS at hM
  clear hs
  generalize rightS t s = R at *
  generalize endsL t s = E at *
  obtain ⟨nn, b, ⟨p1, p2, p3, p4, p5⟩, ⟨q1, q2, q3, q4, q5⟩⟩ := s
  dsimp only at hrn PE pe2 hel hM
  have SR : Hid (∀ W, Calls Try.prog 17 #[.int .i64 t, .agg #[.int .i64 nn, .bool b, .bool p1, .int .i64 p2, .string (bstr p3), .int .i64 p4, .int .i64 p5, .bool q1, .int .i64 q2, .string (bstr q3), .int .i64 q4, .int .i64 q5]] W (NewPost (.bool R) W)) := Lib.hid SR
  show Calls Try.prog 19 #[.slice A l.length c, .int .i64 t, .agg #[.int .i64 nn, .bool b, .bool p1, .int .i64 p2, .string (bstr p3), .int .i64 p4, .int .i64 p5, .bool q1, .int .i64 q2, .string (bstr q3), .int .i64 q4, .int .i64 q5]] w (BytesPost M w)
  have B0 : Blk (w.alloc (.cells #[.int .i64 nn, .bool b, .bool p1, .int .i64 p2, .string (bstr p3), .int .i64 p4, .int .i64 p5, .bool q1, .int .i64 q2, .string (bstr q3), .int .i64 q4, .int .i64 q5] 31)) w.heap.size 31 #[.int .i64 nn, .bool b, .bool p1, .int .i64 p2, .string (bstr p3), .int .i64 p4, .int .i64 p5, .bool q1, .int .i64 q2, .string (bstr q3), .int .i64 q4, .int .i64 q5] := Blk.new _ _ _
  have hb : New w (w.alloc (.cells #[.int .i64 nn, .bool b, .bool p1, .int .i64 p2, .string (bstr p3), .int .i64 p4, .int .i64 p5, .bool q1, .int .i64 q2, .string (bstr q3), .int .i64 q4, .int .i64 q5] 31)) := (Below.refl _ _).alloc (Nat.le_refl _) _
  have hz0 := hb.size
  have ha : New (w.alloc (.cells #[.int .i64 nn, .bool b, .bool p1, .int .i64 p2, .string (bstr p3), .int .i64 p4, .int .i64 p5, .bool q1, .int .i64 q2, .string (bstr q3), .int .i64 q4, .int .i64 q5] 31)) ((w.alloc (.cells #[.int .i64 nn, .bool b, .bool p1, .int .i64 p2, .string (bstr p3), .int .i64 p4, .int .i64 p5, .bool q1, .int .i64 q2, .string (bstr q3), .int .i64 q4, .int .i64 q5] 31)).alloc (.cells #[] 5)) := (Below.refl _ _).alloc (Nat.le_refl _) _
  have om := (madeB (w.alloc (.cells #[.int .i64 nn, .bool b, .bool p1, .int .i64 p2, .string (bstr p3), .int .i64 p4, .int .i64 p5, .bool q1, .int .i64 q2, .string (bstr q3), .int .i64 q4, .int .i64 q5] 31)) 5).base_le hz0
  rw [show (w.alloc (.cells #[.int .i64 nn, .bool b, .bool p1, .int .i64 p2, .string (bstr p3), .int .i64 p4, .int .i64 p5, .bool q1, .int .i64 q2, .string (bstr q3), .int .i64 q4, .int .i64 q5] 31)).heap.size = w.heap.size + 1 by simp] at om
  have rm := Reads.later h (New.trans hb ha)
  have bm := New.trans hb ha
  have BM := B0.alloc (.cells #[] 5)
  have HPE := Lib.hid PE
  have Hpe2 := Lib.hid pe2
  have Hhel := Lib.hid hel
  clear PE pe2 hel h ha hb B0 hz0
  have HM := Lib.hid hM
  clear hM
  have Hrn := Lib.hid hrn
  clear hrn
  go_enter Try.func19, Try.ntmps19
  go_wp2_with (refine wpList_pushesN elB rfl (.tmp 11) (.tmp 12) rfl (W := w) (B := w.heap.size) (k := .u8) (l := []) om rm rfl rfl bm (Nat.le_refl _) (by simp; omega) (by omega) (by simp only [maxLen]; omega) ?_
               intro A1 c1 w1 _ _ o1 g1 b1 _
               have B1 := BM.push om g1 (by decide)
               rw [List.nil_append, Nat.zero_add] at o1
               obtain ⟨x0, x1, x2, x3, x4, x5, x6, x7, x8, x9, x10, x11⟩ := cells12 B1)
  refine (SR.out _).mono ?_
  rintro e w2 ⟨rfl, b2⟩
  have o2 := o1.later b2
  have b02 := New.trans b1 b2
  have hz2 := b02.size
  have B2 := B1.below b2 B1.lt
  clear om rm bm BM o1 g1 B1 b2 b1 x0 x1 x2 x3 x4 x5 x6 x7 x8 x9 x10 x11
  obtain ⟨x0, x1, x2, x3, x4, x5, x6, x7, x8, x9, x10, x11⟩ := cells12 B2
  have hM := HM.out
  clear HM
  cases R with
  | false =>
    rw [if_neg (by simp)] at hM
    have HM := Lib.hid hM
    clear hM Hrn HPE Hpe2 Hhel
    go_wp2_with fail
    go_ret
    rw [HM.out]
    exact ⟨_, _, _, rfl, o2, b02⟩
  | true =>
    rw [if_pos rfl] at hM
    obtain ⟨-, ⟨n0, n1⟩⟩ := Hrn.out (by trivial)
    obtain ⟨N, rfl⟩ := Int.eq_ofNat_of_zero_le n0
    rw [Int.toNat_natCast] at hM
    have hw : IntKind.u64.wrap (N : Int) = (N : Int) := by rw [IntKind.wrap_u64]; omega
    have V := vp_len10 (n := N) (by omega)
    have U := Lib.hid (rput_any (c := c1) N o2.reads (by omega) (by omega))
    clear Hrn
    cases b with
    | false =>
      rw [if_neg (by simp)] at hM
      have HM := Lib.hid hM
      clear hM HPE Hpe2 Hhel
      go_wp2_with fail
      refine U.out.mono ?_
      rintro e w3 ⟨A3, n3, c3, rfl, k3, b3⟩
      have hn3 : n3 ≤ 100000010 := by have := k3.len; rw [nums_length, List.length_append] at this; omega
      have b03 := New.trans b02 b3
      have B3 := B2.below b3 B2.lt
      have hz3 := b03.size
      clear U b3 B2 o2 x0 x1 x2 x3 x4 x5 x6 x7 x8 x9 x10 x11
      obtain ⟨x0, x1, x2, x3, x4, x5, x6, x7, x8, x9, x10, x11⟩ := cells12 B3
      go_wp2_with (refine wpList_pushN elB rfl (.tmp 28) (.tmp 29) rfl (W := w) (B := w.heap.size) (k3.base_le hz2) rfl rfl 0 rfl b03 (Nat.le_refl _) hz3 (by omega) (by simp only [maxLen]; omega) ?_
                   intro A5 c5 w5 _ _ o5 _ b5 _ _)
      go_ret
      rw [HM.out]
      exact ⟨_, _, _, rfl, o5, b5⟩
    | true =>
      rw [if_pos rfl] at hM
      have PE := HPE.out (by trivial) (by trivial)
      rw [Hpe2.out (by trivial) (by trivial)] at PE
      have hel := Hhel.out (by trivial) (by trivial)
      have PE : Hid (∀ W : World, Calls Try.prog 37 #[.int .i64 t, .slice (some ⟨W.heap.size, 0, none⟩) 2 2] (W.alloc (.cells #[.bool p1, .int .i64 p2, .string (bstr p3), .int .i64 p4, .int .i64 p5, .bool q1, .int .i64 q2, .string (bstr q3), .int .i64 q4, .int .i64 q5] 29)) (OptB (some E) (W.alloc (.cells #[.bool p1, .int .i64 p2, .string (bstr p3), .int .i64 p4, .int .i64 p5, .bool q1, .int .i64 q2, .string (bstr q3), .int .i64 q4, .int .i64 q5] 29)))) := Lib.hid PE
      have HM := Lib.hid hM
      clear hM HPE Hpe2 Hhel
      have V2 := vp_len10 (n := E.length) (by omega)
      go_wp2_with fail
      refine U.out.mono ?_
      rintro e w3 ⟨A3, n3, c3, rfl, k3, b3⟩
      have hn3 : n3 ≤ 100000010 := by have := k3.len; rw [nums_length, List.length_append] at this; omega
      have b03 := New.trans b02 b3
      have B3 := B2.below b3 B2.lt
      have hz3 := b03.size
      have o3 := k3.base_le hz2
      clear U b3 B2 o2 k3 x0 x1 x2 x3 x4 x5 x6 x7 x8 x9 x10 x11
      obtain ⟨x0, x1, x2, x3, x4, x5, x6, x7, x8, x9, x10, x11⟩ := cells12 B3
      go_wp2_with fail
      refine (PE.out _).mono ?_
      rintro e w4 ⟨A4, n4, c4, rfl, k4, b4⟩
      have ha : New w3 (w3.alloc (.cells #[.bool p1, .int .i64 p2, .string (bstr p3), .int .i64 p4, .int .i64 p5, .bool q1, .int .i64 q2, .string (bstr q3), .int .i64 q4, .int .i64 q5] 29)) := (Below.refl _ _).alloc (Nat.le_refl _) _
      have b34 := New.trans ha b4
      have hap := ownApart k4 (o3.later ha)
      have o4 := o3.later b34
      have b04 := New.trans b03 b34
      have hz4 := b04.size
      have hn4 : n4 ≤ 131112 := by have l4 := k4.len; rw [nums_length] at l4; omega
      have HNE : Hid (n4 = E.length) := Lib.hid (by have l4 := k4.len; rwa [nums_length] at l4)
      have hw2 : IntKind.u64.wrap (n4 : Int) = (n4 : Int) := by rw [IntKind.wrap_u64]; omega
      clear ha b4 b34 o3 b03 B3 x0 x1 x2 x3 x4 x5 x6 x7 x8 x9 x10 x11
      go_wp2_with (refine wpList_pushN elB rfl (.tmp 41) (.tmp 42) rfl (W := w) (B := w.heap.size) o4 rfl rfl 1 rfl b04 (Nat.le_refl _) hz4 (by omega) (by simp only [maxLen]; omega) ?_
                   intro A5 c5 w5 _ _ o5 g5 b5 _ d5)
      have k5 := k4.kept g5 hap
      have hz5 := b5.size
      have U2 := rput_any (c := c5) E.length o5.reads (by omega) (by omega)
      rw [← HNE.out] at U2
      have U2 := Lib.hid U2
      refine U2.out.mono ?_
      rintro e w6 ⟨A6, n6, c6, rfl, k6, b6⟩
      have hn6 : n6 ≤ 100000030 := by
        have a := k6.len
        have b' := o5.len
        rw [nums_length] at a b'
        rw [List.length_append, HNE.out] at a
        omega
      have k56 := k5.later b6
      have b06 := New.trans b5 b6
      have hz6 := b06.size
      rw [HNE.out] at k6
      go_wp2_with (refine wpList_pushesN elB rfl (.tmp 49) (.tmp 50) rfl (W := w) (B := w.heap.size) (k6.base_le hz5) k56.reads rfl rfl b06 (Nat.le_refl _) hz6 (by omega) (by simp only [maxLen]; omega) ?_
                   intro A8 c8 w8 _ _ o8 _ b8 _)
      go_ret
      rw [HM.out]
      exact ⟨_, _, _, rfl, o8, b8⟩

end Go.Proofs.Ythdkbfffjlkbpaa
/- Opens a stat that came in. -/

namespace Go.Proofs.Ythdkbfffjlkbpaa
open Go.RowKit Go.Hm Go.WideShapes Go.ChangeShapes Go.Deep
theorem CellFine.data {c : CellS} (h : CellFine c) : cellData c := ⟨h.1, h.2.1⟩

section
variable {H : Type} {enc : TypeId × Value → H} {W : World} {base : Nat} {v : Value} {d : DataW H} {ps : List MemPlace}
set_option maxRecDepth 100000 in
theorem held_stat {cs : List Value} (h : Held enc Try.prog W 31 cs) : ∃ s : StatS, cs = statV s ∧ (CellFine s.2.2.1 ∧ CellFine s.2.2.2) ∧ -9223372036854775808 ≤ s.1 ∧ s.1 ≤ 9223372036854775807 := by
  have ht : Try.prog.underlying 31 = some (.struct (fieldsOf Try.prog 31)) := by kernel_rfl
  have hl := h.partLen ht (n := 12) (by kernel_rfl)
  have p0 := h.part ht 0 0 1 (ft := 3) (by kernel_rfl) (by kernel_rfl)
  have p1 := h.part ht 1 1 1 (ft := 4) (by kernel_rfl) (by kernel_rfl)
  have p2 := h.part ht 2 2 5 (ft := 29) (by kernel_rfl) (by kernel_rfl)
  have p3 := h.part ht 3 7 5 (ft := 29) (by kernel_rfl) (by kernel_rfl)
  obtain ⟨n, e0, n1, n2⟩ := p0.i64 (by kernel_rfl)
  obtain ⟨b, e1⟩ := p1.bool (by kernel_rfl)
  obtain ⟨p, e2, hp⟩ := held_cell p2
  obtain ⟨q, e3, hq⟩ := held_cell p3
  clear p0 p1 p2 p3 h
  match cs, hl with
  | [a0, a1, a2, a3, a4, a5, a6, a7, a8, a9, a10, a11], _ =>
    refine ⟨(n, b, p, q), ?_, ⟨hp, hq⟩, n1, n2⟩
    simp only [List.drop_succ_cons, List.drop_zero, List.take_succ_cons, List.take_zero, List.cons.injEq, and_true] at e0 e1 e2 e3
    show _ = [Value.int .i64 n, .bool b] ++ cellV p ++ cellV q
    rw [← e2, ← e3, e0, e1]
    rfl
set_option maxRecDepth 100000 in
theorem open_St (hval : Value.okWide Try.prog W .any base 31 v) (h : DataW.Trod enc Try.prog W 0 (fun _ => true) true 31 v d ps) (hlt : ∀ p ∈ ps, p.block < W.heap.size) (hw : ∀ n ∈ d.weights Try.prog 31, n ≤ reachBytes) :
    ∃ s : StatS, v = statA s ∧ (CellFine s.2.2.1 ∧ CellFine s.2.2.2) ∧ -9223372036854775808 ≤ s.1 ∧ s.1 ≤ 9223372036854775807 := by
  have ht : Try.prog.underlying 31 = some (.struct (fieldsOf Try.prog 31)) := by kernel_rfl
  obtain ⟨⟨cs⟩, rfl, hsz⟩ := okWide_struct ht hval
  have hh := Held.of h hlt hw
  simp only [Value.cells] at hh
  obtain ⟨s, rfl, hs⟩ := held_stat hh
  exact ⟨s, rfl, hs⟩
end

end Go.Proofs.Ythdkbfffjlkbpaa
/- What was put is got; what is got, put again, is what was read: plain lists. -/

namespace Go.Proofs.Ythdkbfffjlkbpaa
open Go.RowKit Go.Hm
theorem vp_byteS : ∀ (k n : Nat), n ≤ k → ∀ x ∈ vp n, x < 256 := by
  intro k
  induction k with
  | zero =>
    intro n hn x hx
    obtain rfl : n = 0 := by omega
    rw [vp_lt (by omega)] at hx
    simp at hx
    omega
  | succ k ih =>
    intro n hn x hx
    by_cases h : n < 128
    · rw [vp_lt h] at hx
      simp at hx
      omega
    · rw [vp_ge (by omega)] at hx
      rcases List.mem_cons.1 hx with rfl | hx
      · omega
      · exact ih _ (by omega) x hx
theorem byteS_cons {y : Nat} {r : List Nat} : byteS (some (y :: r)) = (y, some r) := rfl
theorem plB_lt {t : Int} {l : List CellS} (hd : ∀ c ∈ l, ∀ z ∈ c.2.2.1, z < 256) : ∀ x ∈ plB t l, x < 256 := by
  intro x hx
  unfold plB at hx
  split at hx
  · exact low_lt _ _ x hx
  · obtain ⟨c, hc, hx⟩ := List.mem_flatMap.1 hx
    unfold plE at hx
    split at hx
    · exact low_lt _ _ x hx
    · split at hx
      · rcases List.mem_append.1 hx with h | h
        · exact vp_byteS _ _ (Nat.le_refl _) x h
        · exact hd c hc x h
      · split at hx
        · rcases List.mem_append.1 hx with h | h
          · exact vp_byteS _ _ (Nat.le_refl _) x h
          · exact vp_byteS _ _ (Nat.le_refl _) x h
        · simp at hx
theorem rdL_data {t : Int} : ∀ (k : Nat) (S : St), S.ok → ∀ c ∈ (rdL t k S).1, cellData c
  | 0, _, _, c, hc => by simp [rdL] at hc
  | _ + 1, none, _, c, hc => by simp [rdL] at hc
  | k + 1, some l, hS, c, hc => by
    simp only [rdL, List.mem_cons] at hc
    rcases hc with rfl | hc
    · exact rd_data hS
    · exact rdL_data k _ (rd_ok hS) c hc
theorem isPl_ex {t : Int} {b : List Nat} {n : Int} (h8 : ∀ x ∈ b, x < 256) : ∃ o, IsPl cellData t b n o := by
  by_cases hk : 0 ≤ t ∧ t ≤ 3 ∧ 0 ≤ n ∧ n ≤ 65536
  · obtain ⟨m, rfl⟩ := Int.eq_ofNat_of_zero_le hk.2.2.1
    by_cases h1 : t = 1
    · subst h1
      exact ⟨_, isPl_bits h8⟩
    · obtain ⟨out, S, he⟩ : ∃ out S, rdL t m (some b) = (out, S) := ⟨_, _, rfl⟩
      refine ⟨_, isPl_fin (by omega) (by omega) (St.ok_some h8) he fun c hc => ?_⟩
      have := rdL_data (t := t) m (some b) (St.ok_some h8)
      rw [he] at this
      exact this c hc
  · exact ⟨_, isPl_no hk⟩
theorem plD_of {t : Int} {l : List CellS} {b : List Nat} {n : Int} (hd : ∀ c ∈ l, cellData c) (hn : (l.length : Int) = n) (h : plO t l = some b) : plD t b n = some l := by
  have h8 : ∀ x ∈ b, x < 256 := by
    rw [← (plO_iff.1 h).2]
    exact plB_lt fun c hc => (hd c hc).1.2
  obtain ⟨o, ho⟩ := isPl_ex (t := t) (n := n) h8
  rw [← isPl_is ho]
  exact ho.compl l hd hn h
theorem rawS_is {t : Int} {S S1 S2 : St} {N y : Nat} (e1 : lenS 65536 S = (N, S1)) (e2 : byteS S1 = (y, S2)) : rawS t S = (if y = 1 then (((N : Int), true, (endsS t S2).1.1, (endsS t S2).1.2), (endsS t S2).2) else (((N : Int), false, cell0, cell0), S2)) := by
  have a : (lenS 65536 S).1 = N := by rw [e1]
  have b : (byteS (lenS 65536 S).2) = (y, S2) := by rw [e1]; exact e2
  unfold rawS
  rw [b, a]
theorem getA_is {t : Int} {S S1 S2 : St} {N y : Nat} (e1 : lenS 65536 S = (N, S1)) (e2 : byteS S1 = (y, S2)) : getA t S = if y ≤ 1 ∧ (rawS t S).2 ≠ none ∧ rightS t (rawS t S).1 = true then rawS t S else (stat0, none) := by
  have b : (byteS (lenS 65536 S).2) = (y, S2) := by rw [e1]; exact e2
  unfold getA
  rw [b]
/-- What was put is got, whatever stands behind it. -/
theorem getA_put {t : Int} {s : StatS} (hr : rightS t s = true) (hs : statData s) (r : List Nat) (hl : r.length ≤ 140737488351232) : getA t (some (putS [] t s ++ r)) = (s, some r) := by
  have hn := (rightS_n hr).2
  obtain ⟨n, b, p, q⟩ := s
  dsimp only at hn
  obtain ⟨N, rfl⟩ := Int.eq_ofNat_of_zero_le hn.1
  have hp : putS [] t ((N : Int), b, p, q) = if b then vp N ++ [1] ++ vp (endsL t ((N : Int), b, p, q)).length ++ endsL t ((N : Int), b, p, q) else vp N ++ [0] := by
    unfold putS
    rw [if_pos hr]
    simp
  have hlen := fun e => ends_len hr (show b = true from e)
  have hok := fun e => ends_ok hr (show b = true from e)
  have hno := fun e => rightS_has hr (show b = true from e)
  have hu : endsL t ((N : Int), b, p, q) = plB t [p, q] := rfl
  rw [hp]
  generalize endsL t ((N : Int), b, p, q) = E at *
  cases b with
  | true =>
    have hlen := hlen rfl
    have hok := hok rfl
    have e1 : lenS 65536 (some (vp N ++ [1] ++ vp E.length ++ E ++ r)) = (N, some (1 :: (vp E.length ++ (E ++ r)))) := by
      have : vp N ++ [1] ++ vp E.length ++ E ++ r = vp N ++ (1 :: (vp E.length ++ (E ++ r))) := by simp
      rw [this]
      exact lenS_app N _ (by omega) (by omega)
    have e2 : endsS t (some (vp E.length ++ (E ++ r))) = ((p, q), some r) := by
      have e3 : lenS (((some (vp E.length ++ (E ++ r)) : St).getD []).length : Int) (some (vp E.length ++ (E ++ r))) = (E.length, some (E ++ r)) := by
        have := vp_len10 (n := E.length) (by omega)
        refine lenS_app _ _ ?_ ?_
        · simp only [Option.getD_some, List.length_append]; omega
        · simp only [Option.getD_some, List.length_append]; omega
      unfold endsS
      rw [e3]
      dsimp only
      rw [takeS_app]
      dsimp only
      rw [plD_of (l := [p, q]) (fun c hc => by
        simp at hc
        rcases hc with rfl | rfl
        · exact hs.1
        · exact hs.2) (by rfl) (plO_iff.2 ⟨hok, hu.symm⟩)]
    simp only [if_true]
    rw [getA_is e1 rfl, rawS_is e1 rfl, if_pos rfl, e2]
    dsimp only
    rw [if_pos ⟨by omega, by simp, hr⟩]
  | false =>
    have e1 : lenS 65536 (some (vp N ++ [0] ++ r)) = (N, some (0 :: r)) := by
      have : vp N ++ [0] ++ r = vp N ++ (0 :: r) := by simp
      rw [this]
      exact lenS_app N _ (by omega) (by omega)
    have hz : p = cell0 ∧ q = cell0 := by
      unfold rightS at hr
      split at hr
      · simp at hr
      · simpa using hr
    obtain ⟨rfl, rfl⟩ := hz
    simp only [Bool.false_eq_true, if_false]
    rw [getA_is e1 rfl, rawS_is e1 rfl, if_neg (show ¬ (0 : Nat) = 1 by omega)]
    rw [if_pos ⟨by omega, by simp, hr⟩]
theorem getA_none {t : Int} {S : St} (h : (getA t S).2 = none) : (getA t S).1 = stat0 := by
  unfold getA at h ⊢
  split
  · rename_i hc
    rw [if_pos hc] at h
    exact absurd h hc.2.1
  · rfl
/-- What is got, put again, is what was read. -/
theorem getA_back {t : Int} {b r : List Nat} {s : StatS} (h8 : ∀ x ∈ b, x < 256) (h : getA t (some b) = (s, some r)) : rightS t s = true ∧ putS [] t s ++ r = b := by
  obtain ⟨N0, S1, k0⟩ : ∃ N S1, lenS 65536 (some b) = (N, S1) := ⟨_, _, rfl⟩
  obtain ⟨y0, S2, k1⟩ : ∃ y S2, byteS S1 = (y, S2) := ⟨_, _, rfl⟩
  rw [getA_is k0 k1] at h
  split at h
  · rename_i hc
    obtain ⟨c1, c2, c3⟩ := hc
    rw [h] at c3
    refine ⟨c3, ?_⟩
    dsimp only at c3
    rw [rawS_is k0 k1] at h
    clear c2
    rcases lenS_cases 65536 (some b) (St.ok_some h8) with k | ⟨N, r0, e0, hN, _, k⟩
    · exfalso
      rw [k] at k0
      injection k0 with k0 k2
      subst k0 k2
      rw [byteS_none] at k1
      injection k1 with k1 k2
      subst k1 k2
      simp at h
    · injection e0 with e0
      rw [k] at k0
      injection k0 with k0 k2
      subst k0 k2
      cases r0 with
      | nil =>
        have : byteS (some []) = (0, none) := rfl
        rw [this] at k1
        injection k1 with k1 k2
        subst k1 k2
        simp at h
      | cons y r1 =>
        rw [byteS_cons] at k1
        injection k1 with k1 k2
        subst k1 k2
        by_cases hy : y = 1
        · subst hy
          simp only [if_true] at h
          have h81 : St.ok (some r1) := St.ok_some fun x hx => h8 x (by rw [e0]; simp [hx])
          unfold endsS at h
          generalize hm : (((some r1 : St).getD []).length : Int) = m at *
          rcases lenS_cases m (some r1) h81 with k2 | ⟨M, r2, e2, hM, _, k2⟩
          · rw [k2] at h
            have : (takeS ((0 : Nat) : Int) none).1 = [] := rfl
            split at h
            · rename_i a b' hp
              dsimp only at hp
              rw [this] at hp
              have hp := (plO_iff.1 (plD_some hp).2.2).2
              injection h with _ h
              cases h
            · injection h with _ h
              cases h
          · injection e2 with e2
            rw [k2] at h
            dsimp only at h
            split at h
            · rename_i a b' hp
              injection h with h1 h2
              rcases takeS_cases (M : Int) (some r2) with k3 | ⟨l, e3, e4, e5, k3⟩
              · rw [k3] at h2; cases h2
              · injection e3 with e3
                subst e3
                rw [k3] at h2 hp
                injection h2 with h2
                dsimp only at hp
                rw [Int.toNat_natCast] at h2 hp
                have hpb := (plO_iff.1 (plD_some hp).2.2).2
                have hel : (endsL t s) = r2.take M := by rw [← h1]; exact hpb
                have hs1 : s.1.toNat = N := by rw [← h1]; simp
                have hs2 : s.2.1 = true := by rw [← h1]
                unfold putS
                rw [if_pos c3, hs2, hs1, hel]
                simp only [if_true, List.nil_append]
                rw [List.length_take, Nat.min_eq_left (by omega), ← h2, e0, e2]
                simp
            · injection h with _ h
              cases h
        · rw [if_neg hy] at h
          injection h with h1 h2
          injection h2 with h2
          obtain rfl : y = 0 := by omega
          have hs1 : s.1.toNat = N := by rw [← h1]; simp
          have hs2 : s.2.1 = false := by rw [← h1]
          unfold putS
          rw [if_pos c3, hs2, hs1, ← h2, e0]
          simp
  · cases h

end Go.Proofs.Ythdkbfffjlkbpaa
