/- Reading texts: package front and its answer. -/
import Derived.Test.YtehickkodcfmfaaFront

namespace Go.Proofs.Ytehickkodcfmfaa
open Go.RowKit Go.Hm

/-- Block gr is a reader by the cursor gc. -/
def Rd (w : World) (gr gc : Nat) (a : List Nat) (room : Int) : Prop := Blk w gr 82 #[.pointer (some ⟨gc, 0, none⟩), .string (bstr a), .int .i64 room]
theorem Rd.cells {w : World} {gr gc : Nat} {a : List Nat} {room : Int} (h : Rd w gr gc a room) : w.cell? ⟨gr, 0, none⟩ = some (.pointer (some ⟨gc, 0, none⟩)) ∧ w.cell? ⟨gr, 1, none⟩ = some (.string (bstr a)) ∧ w.cell? ⟨gr, 2, none⟩ = some (.int .i64 room) :=
  ⟨by rw [Blk.cell h 0]; rfl, by rw [Blk.cell h 1]; rfl, by rw [Blk.cell h 2]; rfl⟩
theorem Rd.far {w w' : World} {gr gc : Nat} {a : List Nat} {room : Int} (h : Rd w gr gc a room) (hW : Far gc w w') (hne : gr ≠ gc) : Rd w' gr gc a room := Blk.grown h hW (by simpa using hne)
theorem Rd.below {w w' : World} {gr gc : Nat} {a : List Nat} {room : Int} (h : Rd w gr gc a room) (hW : New w w') : Rd w' gr gc a room := Blk.below h hW (Blk.lt h)
def TextPost (gr gc : Nat) (x : List Nat × List Nat × Int × St) (w : World) (e : Ending) (w' : World) : Prop :=
  e = .returned (.string (bstr x.1)) ∧ Rd w' gr gc x.2.1 x.2.2.1 ∧ CurS w' gc x.2.2.2 ∧ Turns [gr, gc] w w'

set_option maxHeartbeats 2000000 in
set_option maxRecDepth 100000 in
theorem text_any {w : World} {gr gc : Nat} {a : List Nat} {room : Int} {S : St} (h : Rd w gr gc a room) (hc : CurS w gc S) (hne : gr ≠ gc) (ha8 : ∀ x ∈ a, x < 256) (hal : a.length ≤ 65536) (hr0 : 0 ≤ room) (hr1 : room ≤ 16777216) :
    Calls Try.prog 66 #[.pointer (some ⟨gr, 0, none⟩)] w (TextPost gr gc (ftext a room S) w) := by
  have hS := hc.ok
  have hk0 := lenS_le (m := a.length) S (by omega) hS
  have hS1 := lenS_ok (m := a.length) hS
  rcases hE1 : lenS (a.length : Int) S with ⟨k, S1⟩
  rw [hE1] at hk0 hS1
  simp only at hk0 hS1
  have hm0 := lenS_le (m := 65536 - (k : Int)) S1 (by omega) hS1
  have hS2 := lenS_ok (m := 65536 - (k : Int)) hS1
  rcases hE2 : lenS (65536 - (k : Int)) S1 with ⟨m, S2⟩
  rw [hE2] at hm0 hS2
  simp only at hm0 hS2
  have hr8 := (takeS_ok (n := (m : Int)) hS2).2
  have hrl := takeS_len (n := (m : Int)) (S := S2) (by omega)
  rcases hE3 : takeS (m : Int) S2 with ⟨r, S3⟩
  rw [hE3] at hr8 hrl
  simp only at hr8 hrl
  have F : ftext a room S = if shr a (a.take k ++ r) = k ∧ ((a.take k ++ r).length : Int) ≤ room then (a.take k ++ r, a.take k ++ r, room - ((a.take k ++ r).length : Int), S3) else ([], a, room, none) := by
    unfold ftext; simp only [hE1, hE2, hE3]
  have ht8 : ∀ x ∈ a.take k ++ r, x < 256 := by
    intro x hx
    rcases List.mem_append.1 hx with hx | hx
    · exact ha8 x (List.mem_of_mem_take hx)
    · exact hr8 x hx
  have htl : (a.take k ++ r).length ≤ 65536 := by
    rw [List.length_append, List.length_take]; omega
  have i1 := run_to strT a k (by omega)
  have sa := run_sadd Try.prog (a.take k) r (by have := htl; rw [List.length_append] at this; omega)
  have z1 := bstr_size a
  have L1 := Lib.hid (fun W (hW : CurS W gc S) => (lenS_any (m := (a.length : Int)) hW (by omega) (by omega)))
  rw [hE1] at L1
  have L2 := Lib.hid (fun W (hW : CurS W gc S1) => (lenS_any (m := 65536 - (k : Int)) hW (by omega) (by omega)))
  rw [hE2] at L2
  have L3 := Lib.hid (fun W (hW : CurS W gc S2) => (takeS_any (n := (m : Int)) hW (by omega) (by omega)))
  rw [hE3] at L3
  have HB := Lib.hid (fun W (hW : Far gc w W) => (h.far hW hne).cells)
  have HR := Lib.hid h
  have HC := Lib.hid hc
  have Hne := Lib.hid hne
  have HF := Lib.hid F
  clear hE1 hE2 hE3 hS hS1 hS2 h hc hne F
  generalize ht : a.take k ++ r = t at *
  have Ht := Lib.hid ht
  clear ht
  have z2 := bstr_size t
  go_enter Try.func66, Try.ntmps66
  go_wp2
  refine wp_region_up (Far gc) [(true, 0), (true, 1), (true, 2), (true, 3), (true, 4), (true, 5), (true, 6), (true, 7), (true, 8), (false, 9), (true, 10)]
    (Far.refl gc) Far.trans (by kernel_rfl) (by kernel_rfl) (by kernel_rfl) (by kernel_rfl) ?_
  have hU : Far gc w w.drew := Far.drew gc w
  have D0 := HC.out.below (New.drew w)
  repeat (first
    | (refine up_call rfl rfl (fun K hK => ?_); go_simp
       (with_reducible refine (L1.out _ D0).mono ?_); rintro e w1 ⟨rfl, D1, b1⟩
       refine hK _ _ b1 ?_
       clear hK
       have hU := Far.trans hU b1)
    | (refine up_quiet rfl rfl (v := ?_) (fun W hW => ?_) ?_; rotate_left; (obtain ⟨c0, c1, c2⟩ := HB.out W (Far.trans hU hW); go_simp <;> with_reducible rfl); simp only [Act.put, List.setIfInBounds_toArray, List.set_cons_zero, List.set_cons_succ]))
  refine up_nil ?_
  go_wp2
  refine wp_region_up (Far gc) [(true, 0), (true, 1), (true, 2), (true, 3), (true, 4), (true, 5), (true, 6), (true, 7), (true, 8), (true, 9), (false, 10), (false, 11), (true, 12)]
    (Far.refl gc) Far.trans (by kernel_rfl) (by kernel_rfl) (by kernel_rfl) (by kernel_rfl) ?_
  have hU : Far gc w w1.drew := Far.trans hU (Far.drew gc w1)
  have D0 := D1.below (New.drew w1)
  have dk : IntKind.i64.wrap (65536 - (k : Int)) = 65536 - (k : Int) := IntWalk.i64_in _ (by omega)
  repeat (first
    | (refine up_call rfl rfl (fun K hK => ?_); go_simp
       (with_reducible refine (L2.out _ D0).mono ?_); rintro e w2 ⟨rfl, D2, b2⟩
       refine hK _ _ b2 ?_
       clear hK
       have hU := Far.trans hU b2)
    | (refine up_call rfl rfl (fun K hK => ?_); go_simp
       (with_reducible refine (L3.out _ D2).mono ?_); rintro e w3 ⟨A3, n3, c3, rfl, rfl, k3, D3, b3⟩
       refine hK _ _ b3 ?_
       clear hK
       have hU := Far.trans hU b3)
    | (refine up_quiet rfl rfl (v := ?_) (fun W hW => ?_) ?_; rotate_left; (obtain ⟨c0, c1, c2⟩ := HB.out W (Far.trans hU hW); go_simp <;> with_reducible rfl); simp only [Act.put, List.setIfInBounds_toArray, List.set_cons_zero, List.set_cons_succ]))
  refine up_nil ?_
  go_wp2
  refine wp_region_up New [(true, 0), (true, 1), (true, 2), (true, 3), (true, 4), (true, 5), (true, 6), (true, 7), (true, 8), (true, 9)]
    New.refl New.trans (by kernel_rfl) (by kernel_rfl) (by kernel_rfl) (by kernel_rfl) ?_
  have hV := New.drew w3
  have hU : Far gc w w3.drew := Far.trans hU (Far.drew gc w3)
  have D4 := D3.below hV
  have r3 := k3.reads
  repeat (first
    | (refine up_str elB.ht (by kernel_rfl) (by kernel_rfl) rfl rfl rfl r3 hV ?_; simp only [Act.put, List.setIfInBounds_toArray, List.set_cons_zero, List.set_cons_succ])
    | (refine up_quiet rfl rfl (v := ?_) (fun W hW => ?_) ?_; rotate_left; (obtain ⟨c0, c1, c2⟩ := HB.out W (Far.trans hU (Far.of_new hW)); go_simp <;> with_reducible rfl); simp only [Act.put, List.setIfInBounds_toArray, List.set_cons_zero, List.set_cons_succ]))
  refine up_nil ?_
  obtain ⟨c0, c1, c2⟩ := HB.out _ hU
  have R4 := Lib.hid (HR.out.far hU Hne.out)
  generalize w3.drew = w4 at *
  have SH := Lib.hid (shared_any a t ha8 ht8 (by omega) (by omega) w4)
  by_cases e1 : shr a t = k
  · have d1 : ((shr a t : Int) != (k : Int)) = false := by rw [e1]; simp
    by_cases e2 : (t.length : Int) ≤ room
    · have d2 : decide (room < (t.length : Int)) = false := by simp; omega
      have F := HF.out
      rw [if_pos ⟨e1, e2⟩] at F
      have HG := Lib.hid F
      clear F e1 HF
      generalize shr a t = j at *
      go_wp2_with (first
        | (go_at_call 32; refine SH.out.mono ?_; intro e w5 hh; obtain ⟨rfl, b5⟩ := hh.new; clear hh
           have R5 := R4.out.below b5
           have D5 := D4.below b5
           obtain ⟨c0, c1, c2⟩ := R5.cells
           have f1 := Blk.frozen R5 1
           have f2 := Blk.frozen R5 2
           have R5 := Lib.hid R5))
      go_ret
      rw [HG.out]
      have g5 : w5.grownBy ((w5.setCell ⟨gr, 1, none⟩ (.string (bstr t))).setCell ⟨gr, 2, none⟩ (.int .i64 (room - t.length))) (some gr) := setCell2_grown
      refine ⟨rfl, ?_, D5.keep g5 R5.out Hne.out.symm (by decide), ((Turns.of_far hU (by simp)).trans (Turns.of_new b5)).trans (Turns.of_far g5 (by simp))⟩
      show Blk _ gr _ _
      simpa using (Blk.set_ R5.out 1 (.string (bstr t))).set_ 2 (.int .i64 (room - t.length))
    · have d2 : decide (room < (t.length : Int)) = true := by simp; omega
      have F := HF.out
      rw [if_neg (fun hh => e2 hh.2)] at F
      have HG := Lib.hid F
      clear F e1 HF
      generalize shr a t = j at *
      go_wp2_with (first
        | (go_at_call 32; refine SH.out.mono ?_; intro e w5 hh; obtain ⟨rfl, b5⟩ := hh.new; clear hh
           have R5 := R4.out.below b5
           have D5 := D4.below b5
           obtain ⟨c0, c1, c2⟩ := R5.cells
           have FL := Lib.hid (failS D5)
           have R5 := Lib.hid R5)
        | (go_at_call 73; refine FL.out.mono ?_; rintro e w6 ⟨rfl, D6, b6⟩))
      go_ret
      rw [HG.out]
      exact ⟨rfl, R5.out.far b6 Hne.out, D6, ((Turns.of_far hU (by simp)).trans (Turns.of_new b5)).trans (Turns.of_far b6 (by simp))⟩
  · have d1 : ((shr a t : Int) != (k : Int)) = true := by rw [bne_iff_ne]; omega
    have F := HF.out
    rw [if_neg (fun hh => e1 hh.1)] at F
    have HG := Lib.hid F
    clear F e1 HF
    generalize shr a t = j at *
    go_wp2_with (first
      | (go_at_call 32; refine SH.out.mono ?_; intro e w5 hh; obtain ⟨rfl, b5⟩ := hh.new; clear hh
         have R5 := R4.out.below b5
         have D5 := D4.below b5
         obtain ⟨c0, c1, c2⟩ := R5.cells
         have FL := Lib.hid (failS D5)
         have R5 := Lib.hid R5)
      | (go_at_call 73; refine FL.out.mono ?_; rintro e w6 ⟨rfl, D6, b6⟩))
    go_ret
    rw [HG.out]
    exact ⟨rfl, R5.out.far b6 Hne.out, D6, ((Turns.of_far hU (by simp)).trans (Turns.of_new b5)).trans (Turns.of_far b6 (by simp))⟩

set_option maxHeartbeats 1000000 in
set_option maxRecDepth 100000 in
theorem fdec_any {w : World} {A : Option Addr} {n c : Nat} {b : List Nat} {m : Int} (h : Reads w w.heap.size 1 A n (nums .u8 b)) (h8 : ∀ x ∈ b, x < 256) (hn : n ≤ 140737488355328) (hm : -9223372036854775808 ≤ m) (hm1 : m ≤ 9223372036854775807) :
    Calls Try.prog 34 #[.slice A n c, .int .i64 m] w (OptT (decF b m) w) := by
  obtain rfl := h.len
  by_cases hg : 0 ≤ m ∧ m ≤ 65536
  · obtain ⟨m, rfl⟩ := Int.eq_ofNat_of_zero_le hg.1
    have hD : decF b m = if endS (fdec m [] 16777216 (some b)).2 then some (fdec m [] 16777216 (some b)).1 else none := by unfold decF; rw [if_pos hg, Int.toNat_natCast]
    have HD := Lib.hid hD
    have d1 : decide ((m : Int) < 0) = false := by simp
    have d2 : decide (65536 < (m : Int)) = false := by simp; omega
    have hg1 := hg.2
    clear hD hg hm hm1
    go_enter Try.func34, Try.ntmps34
    go_wp2_with (first
      | (go_at_call 41; refine (over_any h hn h8).mono ?_; rintro e w1 ⟨gc, rfl, hgc, C1, b1⟩))
    have hgw : w.heap.size ≤ gc := hgc
    have hz1 := b1.size
    have hcl := C1.lt
    have N1 := Lib.hid (show w1.heap.size ≠ gc by omega)
    have b1' : Below w.heap.size w (w1.alloc (.cells #[.pointer (some ⟨gc, 0, none⟩), .string ⟨#[]⟩, .int .i64 16777216] 82)) := b1.alloc hz1 _
    go_loopw [8, 9] (fun v i wr => ∃ (k q : Nat) (A : Option Addr) (m5 c5 : Nat) (a : List Nat) (room : Int) (S : St) (pre : List (List Nat)), i = .int .i64 (k : Int) ∧ v = .slice A m5 c5 ∧ k + q = m ∧ Own wr w.heap.size 9 (.slice A m5 c5) (strs pre) ∧ pre.length = k ∧ Rd wr w1.heap.size gc a room ∧ CurS wr gc S ∧ Below w.heap.size w wr ∧
      (∀ x ∈ a, x < 256) ∧ a.length ≤ 65536 ∧ 0 ≤ room ∧ room ≤ 16777216 ∧ Hid (fdec m [] 16777216 (some b) = (pre ++ (fdec q a room S).1, (fdec q a room S).2))) (fun _ i _ => m - (intOf i).toNat)
    case atStart => exact ⟨0, m, _, _, _, [], 16777216, some b, [], rfl, rfl, by omega, Own.nil_, rfl, Blk.new _ _ _, CurS.below (S := some b) C1 ((Below.refl _ _).alloc (Nat.le_refl _) _), b1', by simp, by simp, by omega, by omega, Lib.hid (by simp)⟩
    case round =>
      obtain ⟨k, q, A5, m5, c5, a, room, S, pre, rfl, rfl, hkq, o5, hpre, R5, D5, b5, a8, al, r0, r1, H⟩ := hrel
      have z5 := b5.size
      have BD := Lib.hid (badS D5)
      have ED := Lib.hid (endS_any D5)
      have Hpre := Lib.hid hpre
      have l5 := o5.len
      rw [strs_length, hpre] at l5
      subst l5
      clear hpre
      by_cases hq : q = 0
      · obtain rfl : m5 = m := by omega
        have H2 := H.out
        rw [fdec_stop q a room (.inl hq), List.append_nil] at H2
        have E := HD.out
        rw [H2] at E
        simp only at E
        have HE := Lib.hid E
        clear hq hkq E H2
        generalize decF b m5 = o at *
        cases hE : endS S
        all_goals
          rw [hE] at ED HE
          clear hE
          go_wp2_with (first
            | (go_at_call 67; (with_reducible refine ED.out.mono ?_); rintro e w6 ⟨rfl, rfl⟩))
          go_ret2
          rw [HE.out]
          first
            | exact ⟨rfl, b5⟩
            | exact ⟨_, _, _, rfl, o5, b5⟩
      · obtain ⟨q, rfl⟩ : ∃ p, q = p + 1 := ⟨q - 1, by omega⟩
        cases hS : S with
        | none =>
          rw [hS] at BD ED
          have H2 := H.out
          rw [fdec_stop (q + 1) a room (.inr hS), List.append_nil, hS] at H2
          have E := HD.out
          rw [H2] at E
          have HE := Lib.hid E
          clear hq E H2 hS
          generalize decF b m = o at *
          have E : o = none := by rw [HE.out]; simp [endS]
          subst E
          go_wp2_with (first
            | (go_at_call 46; (with_reducible refine BD.out.mono ?_); rintro e w6 ⟨rfl, rfl⟩)
            | (go_at_call 67; (with_reducible refine ED.out.mono ?_); rintro e w6 ⟨rfl, rfl⟩))
          go_ret2
          exact ⟨rfl, b5⟩
        | some l =>
          rw [hS] at BD
          have H2 := H.out
          rw [fdec_step q a room S (by rw [hS]; simp)] at H2
          have inv := ftext_inv a room S D5.ok al a8 r0 r1
          have T := Lib.hid (text_any R5 D5 N1.out a8 al r0 r1)
          clear hS hq
          generalize ftext a room S = x at *
          obtain ⟨t, a', room', S'⟩ := x
          obtain ⟨i1, i2, i3, i4, i5, i6⟩ := inv
          simp only at i1 i2 i3 i4 i5 i6 H2
          have H3 := Lib.hid H2
          have HA := Lib.hid (And.intro i1 (And.intro i2 (And.intro i3 i4)))
          clear H2 i1 i2 i3 i4 i6
          have TO := Lib.hid (fun (w6 : World) (hT : Turns [w1.heap.size, gc] wr w6) => o5.touch hT (fun g hg => by
            rcases List.mem_cons.1 hg with rfl | hg
            · exact o5.blk_ne R5 (by decide)
            · rw [List.mem_singleton] at hg
              subst hg
              obtain ⟨cs, hC⟩ := D5.blk
              exact o5.blk_ne hC (by decide)))
          go_wp2_with (first
            | (go_at_call 46; (with_reducible refine BD.out.mono ?_); rintro e w6 ⟨rfl, rfl⟩)
            | (go_at_call 66; (with_reducible refine T.out.mono ?_); rintro e w6 ⟨rfl, R6, D6, t6⟩
               have o6 := TO.out w6 t6
               have b6 := Turns.below b5 t6 (by intro x hx; simp at hx; rcases hx with rfl | rfl <;> omega) (Nat.le_refl _)
               have z6 := b6.size)
            | (refine wpList_push elS rfl (.tmp 32) (.tmp 35) rfl (W := w) (B := w.heap.size) o6 rfl rfl b6 (Nat.le_refl _) z6 rfl (by rw [strs_length, Hpre.out]; omega) (by rw [strs_length, Hpre.out]; simp only [maxLen]; omega) ?_
               intro A7 c7 w7 _ _ o7 g7 b7 _ _))
          go_roundw
          case rel => exact ⟨m5 + 1, q, _, _, _, a', room', S', pre ++ [t], by go_num, rfl, by omega, by rw [strs_append]; exact o7, by rw [List.length_append, Hpre.out]; rfl, Blk.push R6 o6 g7 (by decide), CurS.push D6 o6 g7 (by decide) (by decide), b7, HA.out.2.1, HA.out.1, HA.out.2.2.1, HA.out.2.2.2, Lib.hid (by rw [H3.out, List.append_assoc]; rfl)⟩
          case measure => simp [intOf]; omega
  · have hD : decF b m = none := by unfold decF; rw [if_neg hg]
    rw [hD]
    by_cases h0 : m < 0
    all_goals
      have d3 : 65536 < m ∨ m < 0 := by omega
      clear hg hD
      go_enter Try.func34, Try.ntmps34
      go_wp2
      all_goals first | (exfalso; omega) | (go_ret2; exact ⟨rfl, Below.refl _ _⟩)

end Go.Proofs.Ytehickkodcfmfaa
