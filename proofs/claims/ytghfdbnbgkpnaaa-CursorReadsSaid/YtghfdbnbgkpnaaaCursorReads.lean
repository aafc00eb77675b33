/- CursorReads returns true whatever comes in, and leaves all that was there as it was. -/
import Derived.Test.YtghfdbnbgkpnaaaRefNum
import Derived.Test.YtghfdbnbgkpnaaaSmallC
import Derived.Test.YtghfdbnbgkpnaaaOpen
import Derived.Test.YtghfdbnbgkpnaaaPairs
namespace Go.Proofs.Ytghfdbnbgkpnaaa
open Go.RowKit Go.Hm

/-- Both cursors read the same number, and go on alike. -/
theorem byte_both (rl : List Nat) (bad : Bool) (h8 : ∀ x ∈ rl, x < 256) : ∃ (v : Nat) (rl' : List Nat) (bad' : Bool), v ≤ 255 ∧ rl'.length ≤ rl.length ∧
    (∀ w g, Cur w g rl bad → Calls Try.prog 22 #[.pointer (some ⟨g, 0, none⟩)] w (CurPost (.returned (.int .u8 (v : Int))) g rl' bad' w)) ∧
    (∀ w B g, RCur w B g rl bad → Calls Try.prog 23 #[.pointer (some ⟨g, 0, none⟩), .int .i64 1] w (RPost (.returned (.int .u64 (v : Int))) B g rl' bad' w)) := by
  by_cases hN : bad = false ∧ 1 ≤ rl.length
  · obtain ⟨rfl, hN⟩ := hN
    refine ⟨num (rl.take 1), rl.drop 1, false, ?_, by simp, fun w g h => byte_good h hN, fun w B g h => rnum_good 1 h hN (by omega)⟩
    have h1 := num_lt (rl.take 1) (fun x hx => h8 x (List.mem_of_mem_take hx))
    rw [List.length_take, Nat.min_eq_left hN] at h1
    omega
  · have hno : bad = true ∨ rl.length < 1 := by
      cases bad with
      | true => exact .inl rfl
      | false => exact .inr (Nat.lt_of_not_le fun hlt => hN ⟨rfl, hlt⟩)
    exact ⟨0, [], true, by omega, by simp, fun w g h => byte_bad h hno, fun w B g h => rnum_bad h (hno.imp_right fun h => .inr (by omega)) (by omega) (by omega)⟩
theorem u32_both (rl : List Nat) (bad : Bool) (h8 : ∀ x ∈ rl, x < 256) : ∃ (v : Nat) (rl' : List Nat) (bad' : Bool), v ≤ 4294967295 ∧ rl'.length ≤ rl.length ∧
    (∀ w g, Cur w g rl bad → Calls Try.prog 24 #[.pointer (some ⟨g, 0, none⟩)] w (CurPost (.returned (.int .u32 (v : Int))) g rl' bad' w)) ∧
    (∀ w B g, RCur w B g rl bad → Calls Try.prog 23 #[.pointer (some ⟨g, 0, none⟩), .int .i64 4] w (RPost (.returned (.int .u64 (v : Int))) B g rl' bad' w)) := by
  by_cases hN : bad = false ∧ 4 ≤ rl.length
  · obtain ⟨rfl, hN⟩ := hN
    refine ⟨num (rl.take 4), rl.drop 4, false, ?_, by simp, fun w g h => u32_good h hN, fun w B g h => rnum_good 4 h hN (by omega)⟩
    have h1 := num_lt (rl.take 4) (fun x hx => h8 x (List.mem_of_mem_take hx))
    rw [List.length_take, Nat.min_eq_left hN] at h1
    omega
  · have hno : bad = true ∨ rl.length < 4 := by
      cases bad with
      | true => exact .inl rfl
      | false => exact .inr (Nat.lt_of_not_le fun hlt => hN ⟨rfl, hlt⟩)
    exact ⟨0, [], true, by omega, by simp, fun w g h => u32_bad h hno, fun w B g h => rnum_bad h (hno.imp_right fun h => .inr (by omega)) (by omega) (by omega)⟩
theorem u64_both (rl : List Nat) (bad : Bool) : ∃ (v : Nat) (rl' : List Nat) (bad' : Bool), rl'.length ≤ rl.length ∧
    (∀ w g, Cur w g rl bad → Calls Try.prog 25 #[.pointer (some ⟨g, 0, none⟩)] w (CurPost (.returned (.int .u64 (v : Int))) g rl' bad' w)) ∧
    (∀ w B g, RCur w B g rl bad → Calls Try.prog 23 #[.pointer (some ⟨g, 0, none⟩), .int .i64 8] w (RPost (.returned (.int .u64 (v : Int))) B g rl' bad' w)) := by
  by_cases hN : bad = false ∧ 8 ≤ rl.length
  · obtain ⟨rfl, hN⟩ := hN
    exact ⟨num (rl.take 8), rl.drop 8, false, by simp, fun w g h => u64_good h hN, fun w B g h => rnum_good 8 h hN (by omega)⟩
  · have hno : bad = true ∨ rl.length < 8 := by
      cases bad with
      | true => exact .inl rfl
      | false => exact .inr (Nat.lt_of_not_le fun hlt => hN ⟨rfl, hlt⟩)
    exact ⟨0, [], true, by simp, fun w g h => u64_bad h hno, fun w B g h => rnum_bad h (hno.imp_right fun h => .inr (by omega)) (by omega) (by omega)⟩

/-- What both cursors say in the end of a round. -/
theorem ends_both {w w' : World} {B g d : Nat} {rl : List Nat} {bad : Bool} (C : Cur w g rl bad) (D : RCur w' B d rl bad) : ∃ b, Calls Try.prog 32 #[.pointer (some ⟨g, 0, none⟩)] w (BadPost b w) ∧ Calls Try.prog 33 #[.pointer (some ⟨d, 0, none⟩)] w' (BadPost b w') :=
  ⟨_, end_any C, rend_any D⟩

set_option maxHeartbeats 2000000 in
set_option maxRecDepth 100000 in
theorem cursorReads_walk {w : World} {A A2 : Option Addr} {n c n2 c2 : Nat} {l : List Nat} {L : List (Int × Int)} (h : Reads w w.heap.size 1 A n (nums .u8 l)) (h8 : ∀ x ∈ l, x < 256) (hn : n ≤ 500) (hc : n ≤ c) (hcm : c ≤ 140737488351232)
    (h2 : Reads w w.heap.size 2 A2 n2 (pairs L)) (hL : ∀ p ∈ L, (-9223372036854775808 ≤ p.1 ∧ p.1 ≤ 9223372036854775807) ∧ (-9223372036854775808 ≤ p.2 ∧ p.2 ≤ 9223372036854775807)) (hn2 : n2 ≤ 60) :
    Calls Try.prog 3 #[.slice A n c, .slice A2 n2 c2] w (SmallPost w) := by
  obtain rfl := h.len
  obtain rfl := h2.lenP
  go_enter Try.func3, Try.ntmps3
  go_wp2_with (first
    | (go_at_call 20; refine (small03_any w).mono ?_; rintro e w1 ⟨rfl, b1⟩
       have z1 := b1.size
       have bA := b1.alloc z1 (.cells #[] 5)
       have rA := ((h.below b1).alloc z1 (.cells #[] 5)).more bA.size)
    | (refine wpList_pushesN elB rfl (.tmp 16) (.tmp 17) rfl (W := w) (B := w.heap.size) (k := .u8) (l := []) (l2 := l) (c2 := c) (Own.empty _ _) rA rfl rfl bA z1 (by simp) (by omega) (by simp only [maxLen]; omega) ?_
       simp only [Nat.zero_add, List.nil_append]
       intro A1 c1 w2 _ _ o2 _ b2 _
       have O := Lib.hid (over_new (c := c1) o2.reads (by omega)))
    | (go_at_call 21; refine O.out.mono ?_; rintro e w3 ⟨g, Ab, cb, rfl, hg, B3, k3, b3⟩))
  have z2 := b2.size
  have b03 := b2.trans (b3.mono z2)
  have z3 := b03.size
  have hgw : w.heap.size ≤ g := Nat.le_trans z2 hg
  have hgl := B3.lt
  have LT := Lib.hid o2.lt
  have LT3 := Lib.hid k3.lt
  have z23 := b3.size
  have o3 := o2.below b3 (Nat.le_refl _)
  have b04 : Below w.heap.size w (w3.alloc (.cells #[.slice A l.length c, .bool false] 29)) := b03.alloc z3 _
  have D4 : RCur (w3.alloc (.cells #[.slice A l.length c, .bool false] 29)) w.heap.size w3.heap.size l false :=
    ⟨A, c, Blk.new _ _ _, hc, by simp only [maxLen]; omega, h.below b04, z3, h8⟩
  have B4 := B3.alloc (.cells #[.slice A l.length c, .bool false] 29)
  have k4 := k3.alloc (.cells #[.slice A l.length c, .bool false] 29)
  have o4 := o3.alloc (.cells #[.slice A l.length c, .bool false] 29)
  have hne : g ≠ w3.heap.size := by omega
  clear O o2 o3 k3 B3 b1 b2 b3 b03
  generalize hw4 : w3.alloc (.cells #[.slice A l.length c, .bool false] 29) = w4 at *
  go_loopw [9] (fun i wr => ∃ (k : Nat) (X : List Value), i = .int .i64 (k : Int) ∧ k ≤ l.length ∧ Own wr w1.heap.size 5 (.slice A1 l.length c1) X ∧ Blk wr g 75 #[.slice Ab l.length cb, .bool false] ∧ Own wr w2.heap.size 5 (.slice Ab l.length cb) (nums .u8 l) ∧ RCur wr w.heap.size w3.heap.size l false ∧ Below w.heap.size w wr) (fun i _ => l.length - (intOf i).toNat)
  case atStart => exact ⟨0, _, rfl, by omega, o4, B4, k4, D4, b04⟩
  case round =>
    obtain ⟨k, X, rfl, hk, ho, hB, hK, hD, hb⟩ := hrel
    by_cases hlt : k < l.length
    · obtain ⟨gi, u, rfl, hgb, hgl', hu, hcell, hfro, hset⟩ := ho.at_ hlt
      have Hu := Lib.hid hu
      clear hu
      have hlt2 := (LT.out gi rfl).2
      have hKn : Own (wr.setCell ⟨gi, k, none⟩ (.int .u8 7)) w2.heap.size 5 (.slice Ab l.length cb) (nums .u8 l) := hK.kept (row := some gi) setCell_grown (.inr (fun e => by have := (LT3.out gi e).1; omega))
      have hBn : Blk (wr.setCell ⟨gi, k, none⟩ (.int .u8 7)) g 75 #[.slice Ab l.length cb, .bool false] := hB.far (show g ≠ gi by omega) _
      have hDn : RCur (wr.setCell ⟨gi, k, none⟩ (.int .u8 7)) w.heap.size w3.heap.size l false := hD.keep (g' := gi) setCell_grown (by omega) (by omega)
      go_wp2
      go_roundw
      case rel => exact ⟨k + 1, _, by go_num, by omega, hset _, hBn, hKn, hDn, hb.setCell (Nat.le_trans z1 hgb) _⟩
      case measure => simp [intOf]; omega
    · have C0 := OverNew.cur hB hK h8
      clear hB hK ho LT LT3 B4 D4 k4 o4 hw4 b04 rA bA
      generalize w3.heap.size = d at *
      go_wp2
      go_loopw [10] (fun i wr => ∃ (k : Nat) (rl : List Nat) (bad : Bool), i = .int .i64 (k : Int) ∧ k ≤ L.length ∧ rl.length ≤ l.length ∧ Cur wr g rl bad ∧ RCur wr w.heap.size d rl bad ∧ Below w.heap.size w wr) (fun i _ => L.length - (intOf i).toNat)
      case atStart => exact ⟨0, _, _, rfl, by omega, Nat.le_refl _, C0, hD, hb⟩
      case round =>
        obtain ⟨k, rl, bad, rfl, hk, hrl, C, D, b⟩ := hrel
        by_cases hlt : k < L.length
        · obtain ⟨ad, rfl, hbl, hc1, hc2⟩ := (h2.below b).pair hlt
          have hc3 : wr.cell? ⟨(ad.add (k * 2)).block, (ad.add (k * 2)).off + 1, none⟩ = some (.int .i64 (L.getD k (0, 0)).2) := by rw [← add_of_add] at hc2; exact hc2
          have hl0 := hL (L.getD k (0, 0)) (by rw [List.getD_eq_getElem?_getD, List.getElem?_eq_getElem hlt]; exact List.getElem_mem hlt)
          generalize (L.getD k (0, 0)).1 = z at *
          generalize (L.getD k (0, 0)).2 = m at *
          by_cases h3 : (z.tmod 6 == 3) = true
          · by_cases hN : bad = false ∧ 0 ≤ m ∧ m ≤ rl.length
            · obtain ⟨rfl, hm0, hm1⟩ := hN
              obtain ⟨n, rfl⟩ := Int.eq_ofNat_of_zero_le hm0
              have hn' : n ≤ rl.length := by omega
              have TK := Lib.hid (take_mid C hn' (by omega))
              have htl : (rl.take n).length = n := by rw [List.length_take]; omega
              go_wp2_with (first
                | (go_at_call 26; refine TK.out.mono ?_; rintro e w3 ⟨A3, c3, w0, rfl, k3, C0', g0, b3⟩
                   have D0' := D.keep g0 hgw (Ne.symm hne)
                   have D3' := D0'.below b3
                   have RT := Lib.hid (rtake_good D3' hn' (by omega))
                   have hb0 := Far.below b g0 hgw (Nat.le_refl _)
                   have hb3 : Below w.heap.size w w3 := hb0.trans (b3.mono hb0.size)
                   have hc4 : w3.cell? ⟨(ad.add (k * 2)).block, (ad.add (k * 2)).off + 1, none⟩ = some (.int .i64 (n : Int)) := by
                     have hp : (ad.add (k * 2)).block < w.heap.size := by rw [block_of_add]; exact hbl
                     rw [hb3.cell (p := ⟨(ad.add (k * 2)).block, (ad.add (k * 2)).off + 1, none⟩) hp, ← b.cell (p := ⟨(ad.add (k * 2)).block, (ad.add (k * 2)).off + 1, none⟩) hp]
                     exact hc3)
                | (go_at_call 27; refine RT.out.mono ?_; rintro e w4 ⟨A4, c4, rfl, k4, D4, g4⟩
                   obtain ⟨T3, H3⟩ := D3'.blk
                   have x4 := k3.keepT g4 H3 (by decide)
                   have S1 := run_strB (c := c3) x4.reads
                   have S2 := run_strB (c := c4) k4.reads))
              have hdw : d < w0.heap.size := D0'.lt
              have hb4 := Far.below hb3 g4 D3'.ge (Nat.le_refl _)
              obtain ⟨T0, H0⟩ := D0'.blk
              have h0w : w.heap.size ≤ w0.heap.size := hb0.size
              have hg4 : w0.grownBy w4 (some d) := Far.trans (Far.of_new b3) g4
              clear S1 S2 k3 k4 g4 RT TK C b3 g0 hb3 D3' H3
              go_loopw [14] (fun i wl => ∃ (j : Nat) (X : List Value), i = .int .i64 (j : Int) ∧ j ≤ n ∧ Own wl w0.heap.size 5 (.slice A3 n c3) X ∧ w0.grownBy wl (some d) ∧ RCur wl w.heap.size d (rl.drop n) false ∧ Below w.heap.size w wl) (fun i _ => n - (intOf i).toNat)
              case atStart => exact ⟨0, _, rfl, by omega, x4, hg4, D4, hb4⟩
              case round =>
                obtain ⟨j, X, rfl, hj, ho, hgw0, hDl, hbl4⟩ := hrel
                by_cases hltj : j < n
                · obtain ⟨gi, u, rfl, hgb, hgl', hu, hcell, hfro, hset⟩ := ho.at_ hltj
                  have Hu := Lib.hid hu
                  clear hu
                  have hDn : RCur (wr.setCell ⟨gi, j, none⟩ (.int .u8 9)) w.heap.size d (rl.drop n) false := hDl.keep (g' := gi) setCell_grown (by omega) (by omega)
                  have hgn : w0.grownBy (wr.setCell ⟨gi, j, none⟩ (.int .u8 9)) (some d) := ⟨hgw0.os, hgw0.tape, hgw0.output, by simpa [World.setCell] using hgw0.size, fun q hq hne => (Below.heap_setCell _ _ _ _ (by intro e; have e' : q = gi := e; omega)).trans (hgw0.block q hq hne)⟩
                  go_wp2
                  go_roundw
                  case rel => exact ⟨j + 1, _, by go_num, by omega, hset _, hgn, hDn, hbl4.setCell (Nat.le_trans h0w hgb) _⟩
                  case measure => simp [intOf]; omega
                · obtain rfl : j = n := by omega
                  have C4 := C0'.keep hgw0 H0 hne (by decide)
                  clear ho hgw0 C0' x4 hg4 D4 hb4
                  have hdl : (rl.drop j).length ≤ l.length := by rw [List.length_drop]; omega
                  generalize rl.drop j = rl2 at *
                  go_wp2
                  have C5 := C4.below (New.drew wr)
                  have D5 := hDl.below (New.drew wr)
                  have b5 : Below w.heap.size w wr.drew := hbl4.drew
                  obtain ⟨eb, E1, E2⟩ := ends_both C5 D5
                  have E1 := Lib.hid E1
                  have E2 := Lib.hid E2
                  have LF := Lib.hid (left_any C5)
                  have BF := Lib.hid (bad_any C5)
                  obtain ⟨A6, c6, B6, _⟩ := id D5
                  have HD := Lib.hid (fun W (hW : New wr.drew W) => (B6.below hW B6.lt).cell 0)
                  have HE := Lib.hid (fun W (hW : New wr.drew W) => (B6.below hW B6.lt).cell 1)
                  clear B6
                  refine wp_region_up New [(true, 0), (true, 1), (true, 2), (true, 3), (true, 5), (true, 6), (true, 7), (true, 8), (true, 9), (false, 4), (true, 10), (true, 11), (true, 12), (true, 13), (true, 15), (true, 16), (true, 17), (true, 18), (false, 14), (true, 19), (true, 20), (true, 21), (true, 22), (true, 24), (false, 23), (false, 25), (true, 26), (true, 27)]
                    New.refl New.trans (by kernel_rfl) (by kernel_rfl) (by kernel_rfl) (by kernel_rfl) ?_
                  repeat (first
                    | (refine up_call rfl rfl (fun K hK => ?_); go_simp
                       (with_reducible refine LF.out.mono ?_); rintro e w9 ⟨rfl, rfl⟩
                       refine hK _ _ (New.refl _) ?_
                       clear hK)
                    | (refine up_call rfl rfl (fun K hK => ?_); go_simp
                       (with_reducible refine BF.out.mono ?_); rintro e w9 ⟨rfl, rfl⟩
                       refine hK _ _ (New.refl _) ?_
                       clear hK)
                    | (refine up_call rfl rfl (fun K hK => ?_); go_simp
                       (with_reducible refine E1.out.mono ?_); rintro e w9 ⟨rfl, rfl⟩
                       refine hK _ _ (New.refl _) ?_
                       clear hK)
                    | (refine up_call rfl rfl (fun K hK => ?_); go_simp
                       (with_reducible refine E2.out.mono ?_); rintro e w9 ⟨rfl, rfl⟩
                       refine hK _ _ (New.refl _) ?_
                       clear hK)
                    | (refine up_skip rfl rfl ?_; simp only [Act.put, List.setIfInBounds_toArray, List.set_cons_zero, List.set_cons_succ])
                    | (refine up_quiet rfl rfl (v := ?_) (fun W hW => ?_) ?_; rotate_left; (have hc := HD.out W hW; have hd := HE.out W hW; simp at hc hd; go_simp <;> with_reducible rfl); simp only [Act.put, List.setIfInBounds_toArray, List.set_cons_zero, List.set_cons_succ]))
                  refine up_nil ?_
                  go_wp2
                  go_roundw
                  case rel => exact ⟨k + 1, _, _, by go_num, by omega, by first | omega | (simp <;> omega), C5, D5, b5⟩
                  case measure => simp [intOf]; omega
            · have hno : bad = true ∨ m < 0 ∨ (rl.length : Int) < m := by
                cases bad with
                | true => exact .inl rfl
                | false => exact .inr (by
                    by_cases h0 : m < 0
                    · exact .inl h0
                    · exact .inr (Int.lt_of_not_ge fun h1 => hN ⟨rfl, by omega, h1⟩))
              have TK := Lib.hid (take_bad C hno hl0.2.1 hl0.2.2)
              have RTB := Lib.hid (fun w' (D' : RCur w' w.heap.size d rl bad) => rtake_bad D' hno hl0.2.1 hl0.2.2)
              go_wp2_with (first
                | (go_at_call 26; refine TK.out.mono ?_; rintro e w3 ⟨rfl, C3', b3⟩
                   have D3' := D.keep b3 hgw (Ne.symm hne)
                   have RT := Lib.hid (RTB.out w3 D3')
                   have hb3 := Far.below b b3 hgw (Nat.le_refl _)
                   have hc4 : w3.cell? ⟨(ad.add (k * 2)).block, (ad.add (k * 2)).off + 1, none⟩ = some (.int .i64 m) := by
                     have hp : (ad.add (k * 2)).block < w.heap.size := by rw [block_of_add]; exact hbl
                     rw [hb3.cell (p := ⟨(ad.add (k * 2)).block, (ad.add (k * 2)).off + 1, none⟩) hp, ← b.cell (p := ⟨(ad.add (k * 2)).block, (ad.add (k * 2)).off + 1, none⟩) hp]
                     exact hc3)
                | (go_at_call 27; refine RT.out.mono ?_; rintro e w4 ⟨rfl, D4, b4⟩
                   obtain ⟨T3, H3⟩ := D3'.blk
                   have C4 := C3'.keep b4 H3 hne (by decide)
                   have hb4 : Below w.heap.size w w4 := Far.below hb3 b4 D3'.ge (Nat.le_refl _)
                   have S1 := run_strB (w := w4) (B := 0) (c := 0) (A := none) (l := []) Reads.none_))
              refine wp_loop_rounds 1 ?_
              rw [rounds_succ]
              go_wp2
              have C5 := C4.below (New.drew w4)
              have D5 := D4.below (New.drew w4)
              have b5 : Below w.heap.size w w4.drew := hb4.drew
              obtain ⟨eb, E1, E2⟩ := ends_both C5 D5
              have E1 := Lib.hid E1
              have E2 := Lib.hid E2
              have LF := Lib.hid (left_any C5)
              have BF := Lib.hid (bad_any C5)
              obtain ⟨A6, c6, B6, _⟩ := id D5
              have HD := Lib.hid (fun W (hW : New w4.drew W) => (B6.below hW B6.lt).cell 0)
              have HE := Lib.hid (fun W (hW : New w4.drew W) => (B6.below hW B6.lt).cell 1)
              clear B6
              refine wp_region_up New [(true, 0), (true, 1), (true, 2), (true, 3), (true, 5), (true, 6), (true, 7), (true, 8), (true, 9), (false, 4), (true, 10), (true, 11), (true, 12), (true, 13), (true, 15), (true, 16), (true, 17), (true, 18), (false, 14), (true, 19), (true, 20), (true, 21), (true, 22), (true, 24), (false, 23), (false, 25), (true, 26), (true, 27)]
                New.refl New.trans (by kernel_rfl) (by kernel_rfl) (by kernel_rfl) (by kernel_rfl) ?_
              repeat (first
                | (refine up_call rfl rfl (fun K hK => ?_); go_simp
                   (with_reducible refine LF.out.mono ?_); rintro e w9 ⟨rfl, rfl⟩
                   refine hK _ _ (New.refl _) ?_
                   clear hK)
                | (refine up_call rfl rfl (fun K hK => ?_); go_simp
                   (with_reducible refine BF.out.mono ?_); rintro e w9 ⟨rfl, rfl⟩
                   refine hK _ _ (New.refl _) ?_
                   clear hK)
                | (refine up_call rfl rfl (fun K hK => ?_); go_simp
                   (with_reducible refine E1.out.mono ?_); rintro e w9 ⟨rfl, rfl⟩
                   refine hK _ _ (New.refl _) ?_
                   clear hK)
                | (refine up_call rfl rfl (fun K hK => ?_); go_simp
                   (with_reducible refine E2.out.mono ?_); rintro e w9 ⟨rfl, rfl⟩
                   refine hK _ _ (New.refl _) ?_
                   clear hK)
                | (refine up_skip rfl rfl ?_; simp only [Act.put, List.setIfInBounds_toArray, List.set_cons_zero, List.set_cons_succ])
                | (refine up_quiet rfl rfl (v := ?_) (fun W hW => ?_) ?_; rotate_left; (have hc := HD.out W hW; have hd := HE.out W hW; simp at hc hd; go_simp <;> with_reducible rfl); simp only [Act.put, List.setIfInBounds_toArray, List.set_cons_zero, List.set_cons_succ]))
              refine up_nil ?_
              go_wp2
              go_roundw
              case rel => exact ⟨k + 1, _, _, by go_num, by omega, by first | omega | (simp <;> omega), C5, D5, b5⟩
              case measure => simp [intOf]; omega
          · have h3' : (z.tmod 6 == 3) = false := by simpa using h3
            clear h3
            obtain ⟨v1, rl1, bad1, hv1, hl1, G1, R1⟩ := byte_both rl bad D.lt8
            obtain ⟨v4, rl4, bad4, hv4, hl4, G4, R4⟩ := u32_both rl bad D.lt8
            obtain ⟨v8, rl8, bad8, hl8, G8, R8⟩ := u64_both rl bad
            have G1 := Lib.hid (G1 wr g C)
            have G4 := Lib.hid (G4 wr g C)
            have G8 := Lib.hid (G8 wr g C)
            have F1 := Lib.hid (fail_any C)
            have R1 := Lib.hid R1
            have R4 := Lib.hid R4
            have R8 := Lib.hid R8
            go_wp2_with (first
              | (go_at_call 22; refine G1.out.mono ?_; rintro e w3 ⟨rfl, C3', b3⟩
                 have D3' := D.keep b3 hgw (Ne.symm hne)
                 have RN := Lib.hid (R1.out w3 w.heap.size d D3'))
              | (go_at_call 24; refine G4.out.mono ?_; rintro e w3 ⟨rfl, C3', b3⟩
                 have D3' := D.keep b3 hgw (Ne.symm hne)
                 have RN := Lib.hid (R4.out w3 w.heap.size d D3'))
              | (go_at_call 25; refine G8.out.mono ?_; rintro e w3 ⟨rfl, C3', b3⟩
                 have D3' := D.keep b3 hgw (Ne.symm hne)
                 have RN := Lib.hid (R8.out w3 w.heap.size d D3'))
              | (go_at_call 23; refine RN.out.mono ?_; rintro e w4 ⟨rfl, D4, b4⟩
                 obtain ⟨T3, H3⟩ := D3'.blk
                 have C4 := C3'.keep b4 H3 hne (by decide)
                 have hb4 : Below w.heap.size w w4 := Far.below (Far.below b b3 hgw (Nat.le_refl _)) b4 D3'.ge (Nat.le_refl _))
              | (go_at_call 28; refine F1.out.mono ?_; rintro e w3 ⟨rfl, C3', b3⟩
                 have D3' := D.keep b3 hgw (Ne.symm hne)
                 have RN := Lib.hid (rfail_any D3'))
              | (go_at_call 29; refine RN.out.mono ?_; rintro e w4 ⟨rfl, D4, b4⟩
                 obtain ⟨T3, H3⟩ := D3'.blk
                 have C4 := C3'.keep b4 H3 hne (by decide)
                 have hb4 : Below w.heap.size w w4 := Far.below (Far.below b b3 hgw (Nat.le_refl _)) b4 D3'.ge (Nat.le_refl _)))
            · have C5 := C4.below (New.drew w4)
              have D5 := D4.below (New.drew w4)
              have b5 : Below w.heap.size w w4.drew := hb4.drew
              obtain ⟨eb, E1, E2⟩ := ends_both C5 D5
              have E1 := Lib.hid E1
              have E2 := Lib.hid E2
              have LF := Lib.hid (left_any C5)
              have BF := Lib.hid (bad_any C5)
              obtain ⟨A6, c6, B6, _⟩ := id D5
              have HD := Lib.hid (fun W (hW : New w4.drew W) => (B6.below hW B6.lt).cell 0)
              have HE := Lib.hid (fun W (hW : New w4.drew W) => (B6.below hW B6.lt).cell 1)
              clear B6
              refine wp_region_up New [(true, 0), (true, 1), (true, 2), (true, 3), (true, 5), (true, 6), (true, 7), (true, 8), (true, 9), (false, 4), (true, 10), (true, 11), (true, 12), (true, 13), (true, 15), (true, 16), (true, 17), (true, 18), (false, 14), (true, 19), (true, 20), (true, 21), (true, 22), (true, 24), (false, 23), (false, 25), (true, 26), (true, 27)]
                New.refl New.trans (by kernel_rfl) (by kernel_rfl) (by kernel_rfl) (by kernel_rfl) ?_
              repeat (first
                | (refine up_call rfl rfl (fun K hK => ?_); go_simp
                   (with_reducible refine LF.out.mono ?_); rintro e w9 ⟨rfl, rfl⟩
                   refine hK _ _ (New.refl _) ?_
                   clear hK)
                | (refine up_call rfl rfl (fun K hK => ?_); go_simp
                   (with_reducible refine BF.out.mono ?_); rintro e w9 ⟨rfl, rfl⟩
                   refine hK _ _ (New.refl _) ?_
                   clear hK)
                | (refine up_call rfl rfl (fun K hK => ?_); go_simp
                   (with_reducible refine E1.out.mono ?_); rintro e w9 ⟨rfl, rfl⟩
                   refine hK _ _ (New.refl _) ?_
                   clear hK)
                | (refine up_call rfl rfl (fun K hK => ?_); go_simp
                   (with_reducible refine E2.out.mono ?_); rintro e w9 ⟨rfl, rfl⟩
                   refine hK _ _ (New.refl _) ?_
                   clear hK)
                | (refine up_skip rfl rfl ?_; simp only [Act.put, List.setIfInBounds_toArray, List.set_cons_zero, List.set_cons_succ])
                | (refine up_quiet rfl rfl (v := ?_) (fun W hW => ?_) ?_; rotate_left; (have hc := HD.out W hW; have hd := HE.out W hW; simp at hc hd; go_simp <;> with_reducible rfl); simp only [Act.put, List.setIfInBounds_toArray, List.set_cons_zero, List.set_cons_succ]))
              refine up_nil ?_
              go_wp2
              go_roundw
              case rel => exact ⟨k + 1, _, _, by go_num, by omega, by first | omega | (simp <;> omega), C5, D5, b5⟩
              case measure => simp [intOf]; omega
            · have C5 := C4.below (New.drew w4)
              have D5 := D4.below (New.drew w4)
              have b5 : Below w.heap.size w w4.drew := hb4.drew
              obtain ⟨eb, E1, E2⟩ := ends_both C5 D5
              have E1 := Lib.hid E1
              have E2 := Lib.hid E2
              have LF := Lib.hid (left_any C5)
              have BF := Lib.hid (bad_any C5)
              obtain ⟨A6, c6, B6, _⟩ := id D5
              have HD := Lib.hid (fun W (hW : New w4.drew W) => (B6.below hW B6.lt).cell 0)
              have HE := Lib.hid (fun W (hW : New w4.drew W) => (B6.below hW B6.lt).cell 1)
              clear B6
              refine wp_region_up New [(true, 0), (true, 1), (true, 2), (true, 3), (true, 5), (true, 6), (true, 7), (true, 8), (true, 9), (false, 4), (true, 10), (true, 11), (true, 12), (true, 13), (true, 15), (true, 16), (true, 17), (true, 18), (false, 14), (true, 19), (true, 20), (true, 21), (true, 22), (true, 24), (false, 23), (false, 25), (true, 26), (true, 27)]
                New.refl New.trans (by kernel_rfl) (by kernel_rfl) (by kernel_rfl) (by kernel_rfl) ?_
              repeat (first
                | (refine up_call rfl rfl (fun K hK => ?_); go_simp
                   (with_reducible refine LF.out.mono ?_); rintro e w9 ⟨rfl, rfl⟩
                   refine hK _ _ (New.refl _) ?_
                   clear hK)
                | (refine up_call rfl rfl (fun K hK => ?_); go_simp
                   (with_reducible refine BF.out.mono ?_); rintro e w9 ⟨rfl, rfl⟩
                   refine hK _ _ (New.refl _) ?_
                   clear hK)
                | (refine up_call rfl rfl (fun K hK => ?_); go_simp
                   (with_reducible refine E1.out.mono ?_); rintro e w9 ⟨rfl, rfl⟩
                   refine hK _ _ (New.refl _) ?_
                   clear hK)
                | (refine up_call rfl rfl (fun K hK => ?_); go_simp
                   (with_reducible refine E2.out.mono ?_); rintro e w9 ⟨rfl, rfl⟩
                   refine hK _ _ (New.refl _) ?_
                   clear hK)
                | (refine up_skip rfl rfl ?_; simp only [Act.put, List.setIfInBounds_toArray, List.set_cons_zero, List.set_cons_succ])
                | (refine up_quiet rfl rfl (v := ?_) (fun W hW => ?_) ?_; rotate_left; (have hc := HD.out W hW; have hd := HE.out W hW; simp at hc hd; go_simp <;> with_reducible rfl); simp only [Act.put, List.setIfInBounds_toArray, List.set_cons_zero, List.set_cons_succ]))
              refine up_nil ?_
              go_wp2
              go_roundw
              case rel => exact ⟨k + 1, _, _, by go_num, by omega, by first | omega | (simp <;> omega), C5, D5, b5⟩
              case measure => simp [intOf]; omega
            · have C5 := C4.below (New.drew w4)
              have D5 := D4.below (New.drew w4)
              have b5 : Below w.heap.size w w4.drew := hb4.drew
              obtain ⟨eb, E1, E2⟩ := ends_both C5 D5
              have E1 := Lib.hid E1
              have E2 := Lib.hid E2
              have LF := Lib.hid (left_any C5)
              have BF := Lib.hid (bad_any C5)
              obtain ⟨A6, c6, B6, _⟩ := id D5
              have HD := Lib.hid (fun W (hW : New w4.drew W) => (B6.below hW B6.lt).cell 0)
              have HE := Lib.hid (fun W (hW : New w4.drew W) => (B6.below hW B6.lt).cell 1)
              clear B6
              refine wp_region_up New [(true, 0), (true, 1), (true, 2), (true, 3), (true, 5), (true, 6), (true, 7), (true, 8), (true, 9), (false, 4), (true, 10), (true, 11), (true, 12), (true, 13), (true, 15), (true, 16), (true, 17), (true, 18), (false, 14), (true, 19), (true, 20), (true, 21), (true, 22), (true, 24), (false, 23), (false, 25), (true, 26), (true, 27)]
                New.refl New.trans (by kernel_rfl) (by kernel_rfl) (by kernel_rfl) (by kernel_rfl) ?_
              repeat (first
                | (refine up_call rfl rfl (fun K hK => ?_); go_simp
                   (with_reducible refine LF.out.mono ?_); rintro e w9 ⟨rfl, rfl⟩
                   refine hK _ _ (New.refl _) ?_
                   clear hK)
                | (refine up_call rfl rfl (fun K hK => ?_); go_simp
                   (with_reducible refine BF.out.mono ?_); rintro e w9 ⟨rfl, rfl⟩
                   refine hK _ _ (New.refl _) ?_
                   clear hK)
                | (refine up_call rfl rfl (fun K hK => ?_); go_simp
                   (with_reducible refine E1.out.mono ?_); rintro e w9 ⟨rfl, rfl⟩
                   refine hK _ _ (New.refl _) ?_
                   clear hK)
                | (refine up_call rfl rfl (fun K hK => ?_); go_simp
                   (with_reducible refine E2.out.mono ?_); rintro e w9 ⟨rfl, rfl⟩
                   refine hK _ _ (New.refl _) ?_
                   clear hK)
                | (refine up_skip rfl rfl ?_; simp only [Act.put, List.setIfInBounds_toArray, List.set_cons_zero, List.set_cons_succ])
                | (refine up_quiet rfl rfl (v := ?_) (fun W hW => ?_) ?_; rotate_left; (have hc := HD.out W hW; have hd := HE.out W hW; simp at hc hd; go_simp <;> with_reducible rfl); simp only [Act.put, List.setIfInBounds_toArray, List.set_cons_zero, List.set_cons_succ]))
              refine up_nil ?_
              go_wp2
              go_roundw
              case rel => exact ⟨k + 1, _, _, by go_num, by omega, by first | omega | (simp <;> omega), C5, D5, b5⟩
              case measure => simp [intOf]; omega
            · have C5 := C4.below (New.drew w4)
              have D5 := D4.below (New.drew w4)
              have b5 : Below w.heap.size w w4.drew := hb4.drew
              obtain ⟨eb, E1, E2⟩ := ends_both C5 D5
              have E1 := Lib.hid E1
              have E2 := Lib.hid E2
              have LF := Lib.hid (left_any C5)
              have BF := Lib.hid (bad_any C5)
              obtain ⟨A6, c6, B6, _⟩ := id D5
              have HD := Lib.hid (fun W (hW : New w4.drew W) => (B6.below hW B6.lt).cell 0)
              have HE := Lib.hid (fun W (hW : New w4.drew W) => (B6.below hW B6.lt).cell 1)
              clear B6
              refine wp_region_up New [(true, 0), (true, 1), (true, 2), (true, 3), (true, 5), (true, 6), (true, 7), (true, 8), (true, 9), (false, 4), (true, 10), (true, 11), (true, 12), (true, 13), (true, 15), (true, 16), (true, 17), (true, 18), (false, 14), (true, 19), (true, 20), (true, 21), (true, 22), (true, 24), (false, 23), (false, 25), (true, 26), (true, 27)]
                New.refl New.trans (by kernel_rfl) (by kernel_rfl) (by kernel_rfl) (by kernel_rfl) ?_
              repeat (first
                | (refine up_call rfl rfl (fun K hK => ?_); go_simp
                   (with_reducible refine LF.out.mono ?_); rintro e w9 ⟨rfl, rfl⟩
                   refine hK _ _ (New.refl _) ?_
                   clear hK)
                | (refine up_call rfl rfl (fun K hK => ?_); go_simp
                   (with_reducible refine BF.out.mono ?_); rintro e w9 ⟨rfl, rfl⟩
                   refine hK _ _ (New.refl _) ?_
                   clear hK)
                | (refine up_call rfl rfl (fun K hK => ?_); go_simp
                   (with_reducible refine E1.out.mono ?_); rintro e w9 ⟨rfl, rfl⟩
                   refine hK _ _ (New.refl _) ?_
                   clear hK)
                | (refine up_call rfl rfl (fun K hK => ?_); go_simp
                   (with_reducible refine E2.out.mono ?_); rintro e w9 ⟨rfl, rfl⟩
                   refine hK _ _ (New.refl _) ?_
                   clear hK)
                | (refine up_skip rfl rfl ?_; simp only [Act.put, List.setIfInBounds_toArray, List.set_cons_zero, List.set_cons_succ])
                | (refine up_quiet rfl rfl (v := ?_) (fun W hW => ?_) ?_; rotate_left; (have hc := HD.out W hW; have hd := HE.out W hW; simp at hc hd; go_simp <;> with_reducible rfl); simp only [Act.put, List.setIfInBounds_toArray, List.set_cons_zero, List.set_cons_succ]))
              refine up_nil ?_
              go_wp2
              go_roundw
              case rel => exact ⟨k + 1, _, _, by go_num, by omega, by first | omega | (simp <;> omega), C5, D5, b5⟩
              case measure => simp [intOf]; omega
            · have C5 := C.below (New.drew wr)
              have D5 := D.below (New.drew wr)
              have b5 : Below w.heap.size w wr.drew := b.drew
              obtain ⟨eb, E1, E2⟩ := ends_both C5 D5
              have E1 := Lib.hid E1
              have E2 := Lib.hid E2
              have LF := Lib.hid (left_any C5)
              have BF := Lib.hid (bad_any C5)
              obtain ⟨A6, c6, B6, _⟩ := id D5
              have HD := Lib.hid (fun W (hW : New wr.drew W) => (B6.below hW B6.lt).cell 0)
              have HE := Lib.hid (fun W (hW : New wr.drew W) => (B6.below hW B6.lt).cell 1)
              clear B6
              refine wp_region_up New [(true, 0), (true, 1), (true, 2), (true, 3), (true, 5), (true, 6), (true, 7), (true, 8), (true, 9), (false, 4), (true, 10), (true, 11), (true, 12), (true, 13), (true, 15), (true, 16), (true, 17), (true, 18), (false, 14), (true, 19), (true, 20), (true, 21), (true, 22), (true, 24), (false, 23), (false, 25), (true, 26), (true, 27)]
                New.refl New.trans (by kernel_rfl) (by kernel_rfl) (by kernel_rfl) (by kernel_rfl) ?_
              repeat (first
                | (refine up_call rfl rfl (fun K hK => ?_); go_simp
                   (with_reducible refine LF.out.mono ?_); rintro e w9 ⟨rfl, rfl⟩
                   refine hK _ _ (New.refl _) ?_
                   clear hK)
                | (refine up_call rfl rfl (fun K hK => ?_); go_simp
                   (with_reducible refine BF.out.mono ?_); rintro e w9 ⟨rfl, rfl⟩
                   refine hK _ _ (New.refl _) ?_
                   clear hK)
                | (refine up_call rfl rfl (fun K hK => ?_); go_simp
                   (with_reducible refine E1.out.mono ?_); rintro e w9 ⟨rfl, rfl⟩
                   refine hK _ _ (New.refl _) ?_
                   clear hK)
                | (refine up_call rfl rfl (fun K hK => ?_); go_simp
                   (with_reducible refine E2.out.mono ?_); rintro e w9 ⟨rfl, rfl⟩
                   refine hK _ _ (New.refl _) ?_
                   clear hK)
                | (refine up_skip rfl rfl ?_; simp only [Act.put, List.setIfInBounds_toArray, List.set_cons_zero, List.set_cons_succ])
                | (refine up_quiet rfl rfl (v := ?_) (fun W hW => ?_) ?_; rotate_left; (have hc := HD.out W hW; have hd := HE.out W hW; simp at hc hd; go_simp <;> with_reducible rfl); simp only [Act.put, List.setIfInBounds_toArray, List.set_cons_zero, List.set_cons_succ]))
              refine up_nil ?_
              go_wp2
              go_roundw
              case rel => exact ⟨k + 1, _, _, by go_num, by omega, by first | omega | (simp <;> omega), C5, D5, b5⟩
              case measure => simp [intOf]; omega
        · obtain rfl : k = L.length := by omega
          go_wp2
          go_ret
          exact ⟨rfl, b⟩

set_option maxHeartbeats 400000 in
set_option maxRecDepth 100000 in
theorem cursorReads_big {w : World} {A A2 : Option Addr} {n c n2 c2 : Nat} {l : List Nat} (h : Reads w w.heap.size 1 A n (nums .u8 l)) (hn : 500 < n ∨ 60 < n2) (hm : n ≤ 140737488351232) (hm2 : n2 ≤ 9223372036854775807) :
    Calls Try.prog 3 #[.slice A n c, .slice A2 n2 c2] w (SmallPost w) := by
  obtain rfl := h.len
  by_cases hb : 500 < l.length
  · clear hn
    go_enter Try.func3, Try.ntmps3
    go_wp2_with (first
      | (go_at_call 20; refine (small03_any w).mono ?_; rintro e w1 ⟨rfl, b1⟩
         have z1 := b1.size
         have bA := b1.alloc z1 (.cells #[] 5)
         have rA := ((h.below b1).alloc z1 (.cells #[] 5)).more bA.size)
      | (refine wpList_pushesN elB rfl (.tmp 16) (.tmp 17) rfl (W := w) (B := w.heap.size) (k := .u8) (l := []) (l2 := l) (c2 := c) (Own.empty _ _) rA rfl rfl bA z1 (by simp) (by omega) (by simp only [maxLen]; omega) ?_
         simp only [Nat.zero_add, List.nil_append]
         intro A1 c1 w2 _ _ o2 _ b2 _
         have O := Lib.hid (over_new (c := c1) o2.reads (by omega)))
      | (go_at_call 21; refine O.out.mono ?_; rintro e w3 ⟨g, Ab, cb, rfl, hg, B3, k3, b3⟩))
    go_ret
    exact ⟨rfl, b2.trans (b3.mono b2.size)⟩
  · have h2 : 60 < n2 := by omega
    clear hn
    go_enter Try.func3, Try.ntmps3
    go_wp2_with (first
      | (go_at_call 20; refine (small03_any w).mono ?_; rintro e w1 ⟨rfl, b1⟩
         have z1 := b1.size
         have bA := b1.alloc z1 (.cells #[] 5)
         have rA := ((h.below b1).alloc z1 (.cells #[] 5)).more bA.size)
      | (refine wpList_pushesN elB rfl (.tmp 16) (.tmp 17) rfl (W := w) (B := w.heap.size) (k := .u8) (l := []) (l2 := l) (c2 := c) (Own.empty _ _) rA rfl rfl bA z1 (by simp) (by omega) (by simp only [maxLen]; omega) ?_
         simp only [Nat.zero_add, List.nil_append]
         intro A1 c1 w2 _ _ o2 _ b2 _
         have O := Lib.hid (over_new (c := c1) o2.reads (by omega)))
      | (go_at_call 21; refine O.out.mono ?_; rintro e w3 ⟨g, Ab, cb, rfl, hg, B3, k3, b3⟩))
    go_ret
    exact ⟨rfl, b2.trans (b3.mono b2.size)⟩

open Go.WideShapes Go.ChangeShapes in
theorem cursorReads_contract {H : Type} {enc : TypeId × Value → H} (W : World) (base : Nat) (args : Array Value) (ds : List (DataW H)) (ps : List MemPlace)
    (hval : ∀ (j : Nat) t v, Try.f3.params[j]? = some t → args[j]? = some v → Value.okWide Try.prog W .any base t v)
    (hA : DataW.TrodAll enc Try.prog W 0 (fun _ => true) true Try.f3.params.toList args.toList ds ps) (hlt : ∀ p ∈ ps, p.block < W.heap.size)
    (hsz : (DataW.weightsEach Try.prog Try.f3.params.toList ds).all (· ≤ reachBytes) = true) :
    Calls Try.prog 3 args W fun e W' => e = .returned (.bool true) ∧ Below W.heap.size W W' := by
  rw [Try.params3] at hA hval hsz
  obtain ⟨v0, v1, d0, d1, p0, p1, rfl, rfl, rfl, h0, h1⟩ := trodAll_two hA
  obtain ⟨A, c, l, rfl, hc, hm, hr, h8⟩ := open_B (hval 0 _ _ rfl rfl) h0 (fun p hp => hlt p (by simp [hp])) (sized_at hsz (j := 0) rfl rfl)
  obtain ⟨A2, c2, L, rfl, hc2, hm2, hr2, hL⟩ := open_pairs (P := Try.prog) (e := 31) (by kernel_rfl) Try.underlying31 (by kernel_rfl) (by kernel_rfl) (by kernel_rfl) (by kernel_rfl) (hval 1 _ _ rfl rfl) h1 (fun p hp => hlt p (by simp [hp]))
  by_cases hn : l.length ≤ 500 ∧ L.length ≤ 60
  · exact cursorReads_walk hr h8 hn.1 hc hm hr2 hL hn.2
  · exact cursorReads_big hr (by omega) (by omega) (by simp only [maxLen] at hm2; omega)
end Go.Proofs.Ytghfdbnbgkpnaaa
