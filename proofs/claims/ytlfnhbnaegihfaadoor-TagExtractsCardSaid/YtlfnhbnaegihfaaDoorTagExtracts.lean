/- TagExtracts returns true whatever comes in, and leaves all that was there as it was. -/
import Derived.Test.YtlfnhbnaegihfaaDoorBun6

namespace Go.Proofs.YtlfnhbnaegihfaaDoor
open Go.RowKit Go.Hm
set_option maxHeartbeats 8000000 in
set_option maxRecDepth 100000 in
theorem tagExtracts_walk {w : World} {A B : Option Addr} {c d : Nat} {L M : List RowS} (hL : LogRows w A L) (hM : LogRows w B M) (hC : ConstIn w) :
    Calls Tryd.prog 6 #[.slice A L.length c, .slice B M.length d] w (SmallPost w) := by
  have SM := Lib.hid (small02_any w hC)
  have HL := Lib.hid hL
  have HM := Lib.hid hM
  have HC := Lib.hid hC
  clear hL hM hC
  go_enter Tryd.func6, Tryd.ntmps6
  go_wp2_with fail
  refine SM.out.mono ?_
  rintro e w1 ⟨rfl, b1⟩
  have B1 := Lib.hid b1
  clear SM b1
  go_wp2_with fail
  refine new_any.mono ?_
  rintro e w2 ⟨rfl, rfl⟩
  go_wp2_with fail
  refine new_any.mono ?_
  rintro e w3 ⟨rfl, rfl⟩
  have l1 := (LogAt.made w1 w.heap.size).new (new_alloc _ (.cells #[.slice none 0 0] 54))
  have l2 := LogAt.made (w1.alloc (.cells #[.slice none 0 0] 54)) 0
  have hz : (w1.alloc (.cells #[.slice none 0 0] 54)).heap.size = w1.heap.size + 1 := by simp
  rw [hz] at l2
  obtain ⟨w3, hw3⟩ : ∃ W, W = (w1.alloc (.cells #[.slice none 0 0] 54)).alloc (.cells #[.slice none 0 0] 54) := ⟨_, rfl⟩
  have b3 : New w w3 := by rw [hw3]; exact New.trans B1.out (New.trans (new_alloc _ _) (new_alloc _ _))
  rw [← hw3] at l1 l2
  rw [← hw3, hz]
  have hgw : w.heap.size ≤ w1.heap.size := B1.out.size
  generalize w1.heap.size = g at *
  have B3 := Lib.hid b3
  have L1 := Lib.hid l1
  have L2 := Lib.hid l2
  clear hw3 hz B1 b3 l1 l2
  by_cases h3 : 12 < L.length
  · have d3 : decide ((12 : Int) < (L.length : Int)) = true := by simp; omega
    go_wp2
    go_ret
    exact ⟨rfl, B3.out⟩
  have d3 : decide ((12 : Int) < (L.length : Int)) = false := by simp; omega
  by_cases h4 : 12 < M.length
  · have d4 : decide ((12 : Int) < (M.length : Int)) = true := by simp; omega
    go_wp2
    go_ret
    exact ⟨rfl, B3.out⟩
  have d4 : decide ((12 : Int) < (M.length : Int)) = false := by simp; omega
  go_wp2
  clear d3 d4
  go_loopw [8] (fun i wr => ∃ k : Nat, k ≤ L.length ∧ i = .int .i64 (k : Int) ∧ Hid (∃ (V : Value) (F : List (List Nat)), LogAt wr w.heap.size g V F ∧ F.length ≤ k ∧ GoodF F) ∧ Hid (LogAt wr 0 (g + 1) (.slice none 0 0) []) ∧ Hid (New w wr)) (fun i _ => L.length - (intOf i).toNat)
  case atStart => exact ⟨0, by omega, rfl, Lib.hid ⟨_, [], L1.out, by simp, (fun _ hp => nomatch hp)⟩, L2, B3⟩
  case round =>
    clear L1 L2 B3
    obtain ⟨k, hk, rfl, L1, L2, b⟩ := hrel
    by_cases hlt : k < L.length
    · obtain ⟨ad, rfl, ri, hc⟩ := HL.out.at_ hlt
      have CE := Lib.hid hc
      obtain ⟨k0, k1⟩ := hc wr b.out
      generalize L.getD k rowZ = r at *
      obtain ⟨s, Ap, cp, D⟩ := r
      have RI := Lib.hid ri
      have hn : D.length ≤ 4611686018427387903 := ri.few
      have hs : s.length ≤ 140737488351232 := ri.tag.2
      have z1 := bstr_size s
      have FW := Lib.hid (few_any2 (ri.later b.out).rows (by show D.length ≤ _; omega) (fun p hp => (ri.fine p hp).2))
      clear ri hc
      go_wp2_with fail
      refine FW.out.mono ?_
      rintro e w5 ⟨rfl, rfl⟩
      obtain ⟨fw, hfw⟩ : ∃ fw, fw = fewT (bytesOf D) := ⟨_, rfl⟩
      rw [← hfw]
      have HFW := Lib.hid hfw
      clear hfw FW
      cases fw with
      | false =>
        go_wp2
        go_ret
        exact ⟨rfl, b.out⟩
      | true =>
      by_cases h5 : 300 < s.length
      · have d5 : decide ((300 : Int) < (s.length : Int)) = true := by simp; omega
        go_wp2
        go_ret
        exact ⟨rfl, b.out⟩
      have d5 : decide ((300 : Int) < (s.length : Int)) = false := by simp; omega
      have ht := few_of HFW.out.symm
      obtain ⟨V, F, l1, f1, g1⟩ := L1.out
      have l1d := l1.new (New.drew wr)
      have hT := l1.own (B := w.heap.size) (Nat.le_refl _) hgw
      have LH := Lib.hid (lhash_any l1d (show w.heap.size ≤ wr.drew.heap.size from b.out.size) (by omega) ((RI.out.later b.out).later (New.drew wr)).rows (by show D.length ≤ _; omega) RI.out.tag.1 hs (by show tsum (bytesOf D) ≤ _; omega) RI.out.fine.lt (fun w' h => HC.out.turn (New.trans b.out (New.drew wr)) h hT))
      have QC := Lib.hid (fun (W : World) (hW : Turns (g :: rowT V) wr.drew W) => CE.out W (Turns.below (New.trans b.out (New.drew wr)) hW hT (Nat.le_refl _)))
      have FG := Lib.hid (frame_good RI.out.tag.1 RI.out.fine (by show tsum (bytesOf D) ≤ _; omega))
      have HT := Lib.hid hT
      have LD := Lib.hid l1d
      have G1 := Lib.hid g1
      have HFl := Lib.hid f1
      have DN := Lib.hid (fun x (_ : x ∈ rowT V) => show (Value.slice none 0 0).ownBlock ≠ some x by simp [Value.ownBlock])
      clear l1 f1 g1 hT l1d L1
      go_wp2
      clear k0 k1 d5
      refine wp_region_up (Turns (g :: rowT V)) [(true, 0), (true, 1), (true, 2), (true, 3), (true, 4), (true, 5), (true, 6), (true, 7), (true, 8), (true, 9), (true, 10), (false, 11)]
        (Turns.refl _) Turns.trans (by kernel_rfl) (by kernel_rfl) (by kernel_rfl) (by kernel_rfl) ?_
      iterate 11 (
        refine up_quiet rfl rfl (v := ?_) (fun W hW => ?_) ?_
        rotate_left
        · obtain ⟨k0, k1⟩ := QC.out W hW
          go_simp <;> with_reducible rfl
        simp only [Act.put, List.setIfInBounds_toArray, List.set_cons_zero, List.set_cons_succ])
      refine up_call rfl rfl (fun K hK => ?_)
      go_simp
      (with_reducible refine LH.out.mono ?_)
      rintro e w7 ⟨rfl, V', l7, a7, t7⟩
      refine hK _ _ t7 ?_
      clear hK
      refine up_nil ?_
      have l2 := Lib.hid ((L2.out.new (New.drew wr)).other LD.out (by omega) DN.out t7)
      have b7 := Lib.hid (Turns.below (New.trans b.out (New.drew wr)) t7 HT.out (Nat.le_refl _))
      have L7 : Hid (∃ (V : Value) (F : List (List Nat)), LogAt w7 w.heap.size g V F ∧ F.length ≤ k + 1 ∧ GoodF F) := Lib.hid ⟨V', _, l7, Nat.le_trans (add_len _ _) (by have := HFl.out; omega), G1.out.add FG.out⟩
      clear l7 a7 t7 LH QC FG HT LD G1 HFl DN L2
      go_wp2
      go_roundw
      case rel => exact ⟨k + 1, by omega, by go_num, L7, l2, b7⟩
      case measure => simp [intOf]; omega
    · obtain rfl : k = L.length := by omega
      obtain ⟨V, F, l1, f1, g1⟩ := L1.out
      have L1 := Lib.hid l1
      have F1 := Lib.hid g1
      have f1 : F.length ≤ 12 := by omega
      have hvb := fun x hx => (l1.ge x hx).2
      have L2 := Lib.hid (L2.out.rebase (base' := wr.heap.size))
      have hgr : g < wr.heap.size := l1.lt
      obtain ⟨b2, hb2⟩ : ∃ b2, b2 = wr.heap.size := ⟨_, rfl⟩
      rw [← hb2] at L2 hvb hgr
      have hbw : w.heap.size ≤ b2 := by rw [hb2]; exact b.out.size
      have HVB := Lib.hid hvb
      have Z2 := Lib.hid (show b2 ≤ wr.heap.size by omega)
      clear l1 g1 hk hlt hvb hb2
      go_wp2
      go_loopw [10] (fun i wr => ∃ k : Nat, k ≤ M.length ∧ i = .int .i64 (k : Int) ∧ Hid (LogAt wr w.heap.size g V F) ∧ Hid (∃ (V2 : Value) (F2 : List (List Nat)), LogAt wr b2 (g + 1) V2 F2 ∧ F2.length ≤ k ∧ GoodF F2) ∧ Hid (b2 ≤ wr.heap.size) ∧ Hid (New w wr)) (fun i _ => M.length - (intOf i).toNat)
      case atStart => exact ⟨0, by omega, rfl, L1, Lib.hid ⟨_, [], L2.out, by simp, (fun _ hp => nomatch hp)⟩, Z2, b⟩
      case round =>
        clear L1 L2 b Z2
        obtain ⟨k, hk, rfl, L1, L2, Z2, b⟩ := hrel
        by_cases hlt : k < M.length
        · obtain ⟨ad, rfl, ri, hc⟩ := HM.out.at_ hlt
          have CE := Lib.hid hc
          obtain ⟨k0, k1⟩ := hc wr b.out
          generalize M.getD k rowZ = r at *
          obtain ⟨s, Ap, cp, D⟩ := r
          have RI := Lib.hid ri
          have hn : D.length ≤ 4611686018427387903 := ri.few
          have hs : s.length ≤ 140737488351232 := ri.tag.2
          have z1 := bstr_size s
          have FW := Lib.hid (few_any2 (ri.later b.out).rows (by show D.length ≤ _; omega) (fun p hp => (ri.fine p hp).2))
          clear ri hc
          go_wp2_with fail
          refine FW.out.mono ?_
          rintro e w5 ⟨rfl, rfl⟩
          obtain ⟨fw, hfw⟩ : ∃ fw, fw = fewT (bytesOf D) := ⟨_, rfl⟩
          rw [← hfw]
          have HFW := Lib.hid hfw
          clear hfw FW
          cases fw with
          | false =>
            go_wp2
            go_ret
            exact ⟨rfl, b.out⟩
          | true =>
          by_cases h5 : 300 < s.length
          · have d5 : decide ((300 : Int) < (s.length : Int)) = true := by simp; omega
            go_wp2
            go_ret
            exact ⟨rfl, b.out⟩
          have d5 : decide ((300 : Int) < (s.length : Int)) = false := by simp; omega
          have ht := few_of HFW.out.symm
          obtain ⟨V2, F2, l2, f2, g2⟩ := L2.out
          have l2d := l2.new (New.drew wr)
          have hT := l2.own (B := w.heap.size) hbw (by omega)
          have LH := Lib.hid (lhash_any l2d (show b2 ≤ wr.drew.heap.size from Z2.out) (by omega) ((RI.out.later b.out).later (New.drew wr)).rows (by show D.length ≤ _; omega) RI.out.tag.1 hs (by show tsum (bytesOf D) ≤ _; omega) RI.out.fine.lt (fun w' h => HC.out.turn (New.trans b.out (New.drew wr)) h hT))
          have QC := Lib.hid (fun (W : World) (hW : Turns ((g + 1) :: rowT V2) wr.drew W) => CE.out W (Turns.below (New.trans b.out (New.drew wr)) hW hT (Nat.le_refl _)))
          have FG := Lib.hid (frame_good RI.out.tag.1 RI.out.fine (by show tsum (bytesOf D) ≤ _; omega))
          have HT := Lib.hid hT
          have DN : Hid (∀ x ∈ rowT V2, V.ownBlock ≠ some x) := Lib.hid (fun x hx e => by
            have h1 := (l2.ge x hx).1
            have h2 := HVB.out x (rowT_mem e)
            omega)
          have LD := Lib.hid l2d
          have G1 := Lib.hid g2
          have HFl := Lib.hid f2
          clear l2 f2 g2 hT l2d L2
          go_wp2
          clear k0 k1 d5
          refine wp_region_up (Turns ((g + 1) :: rowT V2)) [(true, 0), (true, 1), (true, 2), (true, 3), (true, 4), (true, 5), (true, 6), (true, 7), (true, 8), (true, 9), (true, 10), (false, 11)]
            (Turns.refl _) Turns.trans (by kernel_rfl) (by kernel_rfl) (by kernel_rfl) (by kernel_rfl) ?_
          iterate 11 (
            refine up_quiet rfl rfl (v := ?_) (fun W hW => ?_) ?_
            rotate_left
            · obtain ⟨k0, k1⟩ := QC.out W hW
              go_simp <;> with_reducible rfl
            simp only [Act.put, List.setIfInBounds_toArray, List.set_cons_zero, List.set_cons_succ])
          refine up_call rfl rfl (fun K hK => ?_)
          go_simp
          (with_reducible refine LH.out.mono ?_)
          rintro e w7 ⟨rfl, V', l7, a7, t7⟩
          refine hK _ _ t7 ?_
          clear hK
          refine up_nil ?_
          have l1 := Lib.hid ((L1.out.new (New.drew wr)).other LD.out (by omega) DN.out t7)
          have b7 := Lib.hid (Turns.below (New.trans b.out (New.drew wr)) t7 HT.out (Nat.le_refl _))
          have z7 := Lib.hid (Nat.le_trans Z2.out (Nat.le_trans (New.drew wr).size t7.size))
          have L7 : Hid (∃ (V : Value) (F : List (List Nat)), LogAt w7 b2 (g + 1) V F ∧ F.length ≤ k + 1 ∧ GoodF F) := Lib.hid ⟨V', _, l7, Nat.le_trans (add_len _ _) (by have := HFl.out; omega), G1.out.add FG.out⟩
          clear l7 a7 t7 LH QC FG HT LD G1 HFl DN L1
          go_wp2
          go_roundw
          case rel => exact ⟨k + 1, by omega, by go_num, l1, L7, z7, b7⟩
          case measure => simp [intOf]; omega
        · obtain rfl : k = M.length := by omega
          obtain ⟨V2, E, l2, f2, g2⟩ := L2.out
          have EX := Lib.hid (lextract_any L1.out l2 (by omega) (by omega) F1.out g2 (HC.out.new b.out))
          have L2 := Lib.hid l2
          have G2 := Lib.hid g2
          clear l2 g2
          go_wp2_with fail
          refine EX.out.mono ?_
          rintro e w6 hx
          obtain ⟨A1, n1, c1, A2, n2, c2, rfl, r1, r2, k1, k2, b6⟩ := hx
          have B6 := Lib.hid (New.trans b.out b6)
          have R1 := Lib.hid r1
          have R2 := Lib.hid r2
          have L1 := Lib.hid (L1.out.new b6)
          have L2 := Lib.hid (L2.out.new b6)
          have FR := Lib.hid (lframes_any L1.out (by omega) (fun p hp => by have := (F1.out p hp).2; omega))
          clear EX r1 r2 b6 b
          go_wp2_with fail
          refine FR.out.mono ?_
          rintro e w7 ⟨A3, c3, D3, rfl, o3, p3, h3, b7⟩
          have B7 := Lib.hid (New.trans B6.out b7)
          have R1 := Lib.hid (Reads.later R1.out b7)
          have R2 := Lib.hid (Reads.later R2.out b7)
          have L2 := Lib.hid (L2.out.new b7)
          have R3 := Lib.hid (FramesPost.rows o3 p3)
          have H3 := Lib.hid h3
          have FR := Lib.hid (lframes_any L2.out (by omega) (fun p hp => by have := (G2.out p hp).2; omega))
          clear o3 p3 h3 b7 B6 L1
          go_wp2_with fail
          refine FR.out.mono ?_
          rintro e w8 ⟨A4, c4, D4, rfl, o4, p4, h4, b8⟩
          have B8 := Lib.hid (New.trans B7.out b8)
          have R1 := Lib.hid (Reads.later R1.out b8)
          have R2 := Lib.hid (Reads.later R2.out b8)
          have RX := rextract_any (R3.out.later b8) (FramesPost.rows o4 p4) (by omega) (by omega) (by rw [H3.out]; exact F1.out) (by rw [h4]; exact G2.out)
          rw [H3.out, h4] at RX
          have RX := Lib.hid RX
          clear o4 p4 h4 b8 B7 L2 R3 H3 FR
          obtain ⟨o, ho⟩ : ∃ o, o = extractO F E := ⟨_, rfl⟩
          have HX := Lib.hid (fun x y (h : o = some (x, y)) => extractO_is (ho.symm.trans h))
          rw [← ho] at RX R1 R2 ⊢
          clear ho
          go_wp2_with fail
          refine RX.out.mono ?_
          rintro e w9 hx
          obtain ⟨A5, n5, c5, A6, n6, c6, rfl, r5, r6, _, _, b9⟩ := hx
          have B9 := Lib.hid (New.trans B8.out b9)
          have r1 := Reads.later R1.out b9
          have r2 := Reads.later R2.out b9
          have R1 := Lib.hid r1
          have R2 := Lib.hid r2
          have st1 := run_str (P := Tryd.prog) (c := c1) (src := 23) (dst := 9) (e := 5) (by kernel_rfl) (by kernel_rfl) (by kernel_rfl) r1
          have st2 := run_str (P := Tryd.prog) (c := c2) (src := 23) (dst := 9) (e := 5) (by kernel_rfl) (by kernel_rfl) (by kernel_rfl) r2
          have st3 := run_str (P := Tryd.prog) (c := c5) (src := 23) (dst := 9) (e := 5) (by kernel_rfl) (by kernel_rfl) (by kernel_rfl) r5
          have st4 := run_str (P := Tryd.prog) (c := c6) (src := 23) (dst := 9) (e := 5) (by kernel_rfl) (by kernel_rfl) (by kernel_rfl) r6
          clear r1 r2 r5 r6 b9 RX B8
          cases o with
          | none =>
            generalize bstr ((Option.map Prod.fst (none : Option (List Nat × List Nat))).getD []) = sb1 at *
            generalize bstr ((Option.map Prod.snd (none : Option (List Nat × List Nat))).getD []) = sb2 at *
            go_wp2
            go_ret
            exact ⟨by simp, B9.out⟩
          | some q =>
            obtain ⟨x, y⟩ := q
            obtain ⟨hx, hy, hxy, hsm⟩ := HX.out x y rfl
            obtain ⟨x8, xl⟩ := F1.out x hx
            obtain ⟨y8, yl⟩ := G2.out y hy
            have BB := bstr_beq x8 y8
            rw [decide_eq_false hxy] at BB
            have R1 := Lib.hid (show Reads w9 w9.heap.size 1 A1 n1 (nums .u8 x) from R1.out)
            have R2 := Lib.hid (show Reads w9 w9.heap.size 1 A2 n2 (nums .u8 y) from R2.out)
            have s1 := sum_any R1.out x8 k1.1 (by rw [R1.out.len]; exact xl) (HC.out.new B9.out)
            have s2 := fun W (hW : New w9 W) => sum_any (Reads.later R2.out hW) y8 k2.1 (by rw [R2.out.len]; exact yl) (HC.out.new (New.trans B9.out hW))
            have EQ := eqDig2 x y
            rw [← hsm] at EQ
            have s2 : ∀ W : World, New w9 W → Calls Tryd.prog 23 #[.slice A2 n2 c2] W (NewPost (.agg (ints .u8 (sumI x)).toArray) W) := fun W hW => by rw [hsm]; exact s2 W hW
            rw [show (sumI x == sumI x) = true by simp] at EQ
            obtain ⟨cs, hcs⟩ : ∃ cs, cs = (ints .u8 (sumI x)).toArray := ⟨_, rfl⟩
            rw [← hcs] at s1 s2 EQ
            have S1 := Lib.hid s1
            have S2 := Lib.hid s2
            rw [show (Option.map Prod.fst (some (x, y))).getD [] = x from rfl] at st1 st3
            rw [show (Option.map Prod.snd (some (x, y))).getD [] = y from rfl] at st2 st4
            clear hx hy hxy hsm x8 y8 xl yl s1 s2 hcs
            generalize bstr x = sb1 at *
            generalize bstr y = sb2 at *
            go_wp2_with fail
            refine S1.out.mono ?_
            rintro e w10 ⟨rfl, b10⟩
            have B10 := Lib.hid (New.trans B9.out b10)
            have S2 := Lib.hid (S2.out w10 b10)
            clear b10 st1 st2 st3 st4
            go_wp2_with fail
            refine S2.out.mono ?_
            rintro e w11 ⟨rfl, b11⟩
            have B11 := Lib.hid (New.trans B10.out b11)
            clear b11
            go_wp2
            go_ret
            exact ⟨by simp, B11.out⟩

set_option maxRecDepth 100000 in
open Go.WideShapes Go.ChangeShapes in
theorem tagExtracts_contract {H : Type} {enc : TypeId × Value → H} (W : World) (base : Nat) (args : Array Value) (ds : List (DataW H)) (ps : List MemPlace)
    (hval : ∀ (j : Nat) t v, Tryd.f6.params[j]? = some t → args[j]? = some v → Value.okWide Tryd.prog W .any base t v)
    (hA : DataW.TrodAll enc Tryd.prog W 0 (fun _ => true) true Tryd.f6.params.toList args.toList ds ps) (hlt : ∀ p ∈ ps, p.block < W.heap.size)
    (hsz : (DataW.weightsEach Tryd.prog Tryd.f6.params.toList ds).all (· ≤ reachBytes) = true) (hL : laidMetH Tryd.prog laidC W) :
    Calls Tryd.prog 6 args W fun e W' => e = .returned (.bool true) ∧ Below W.heap.size W W' := by
  rw [Tryd.params6] at hA hval hsz
  obtain ⟨v0, v1, d0, d1, p0, p1, rfl, rfl, rfl, h0, h1⟩ := trodAll_two hA
  -- a: v0 d0 p0 h0, hval 0
  -- b: v1 d1 p1 h1, hval 1
  obtain ⟨A_a, c_a, L_a, rfl, hr_a, hf_a, _⟩ := open_Rows (hval 0 _ _ rfl rfl) h0 (fun p hp => hlt p (by simp [hp])) (sized_at hsz (j := 0) rfl rfl)
  obtain ⟨A_b, c_b, L_b, rfl, hr_b, hf_b, _⟩ := open_Rows (hval 1 _ _ rfl rfl) h1 (fun p hp => hlt p (by simp [hp])) (sized_at hsz (j := 1) rfl rfl)
  exact tagExtracts_walk ⟨hr_a, hf_a⟩ ⟨hr_b, hf_b⟩ (const_of_laid hL)

end Go.Proofs.YtlfnhbnaegihfaaDoor
