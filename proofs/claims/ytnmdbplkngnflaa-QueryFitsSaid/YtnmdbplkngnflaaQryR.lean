/- Queries read: package query and its answer. -/
import Derived.Test.YtnmdbplkngnflaaQryD

namespace Go.Proofs.Ytnmdbplkngnflaa
open Go.RowKit Go.Hm
/-- A query or none, and whether there is one. -/
def OptQ (o : Option (List Int × Int × Int)) (w : World) (e : Ending) (w' : World) : Prop :=
  match o with
  | none => e = .returned (.tuple #[Qv none 0 0 0 0, .bool false]) ∧ Below w.heap.size w w'
  | some (l, f, t) => ∃ A n c, e = .returned (.tuple #[Qv A n c f t, .bool true]) ∧ Own w' w.heap.size 3 (.slice A n c) (ints .i64 l) ∧ Below w.heap.size w w'

theorem setCell3_grown {w : World} {g i j k : Nat} {x y z : Value} : w.grownBy (((w.setCell ⟨g, i, none⟩ x).setCell ⟨g, j, none⟩ y).setCell ⟨g, k, none⟩ z) (some g) := setCell2_grown.trans setCell_grown
/-- Three cells of a block are stored. -/
theorem store3 {w w' : World} {g : Nat} {ty : TypeId} {x y z a b c : Value} (h : Blk w' g ty #[x, y, z]) (hb : New w w') (hg : w.heap.size ≤ g) :
    ∃ W3, W3 = (((w'.setCell ⟨g, 0, none⟩ a).setCell ⟨g, 1, none⟩ b).setCell ⟨g, 2, none⟩ c) ∧ Blk W3 g ty #[a, b, c] ∧ New w W3 :=
  ⟨_, rfl, by simpa using ((h.set_ 0 a).set_ 1 b).set_ 2 c, ((hb.setCell hg _).setCell hg _).setCell hg _⟩
set_option maxHeartbeats 2000000 in
set_option maxRecDepth 100000 in
theorem qdec_any {w : World} {A : Option Addr} {n c : Nat} {b : List Nat} (h : Reads w w.heap.size 1 A n (nums .u8 b)) (h8 : ∀ x ∈ b, x < 256) (hn : n ≤ 140737488355328) :
    Calls Try.prog 10 #[.slice A n c] w (OptQ (decQ b) w) := by
  generalize hO : decQ b = O
  unfold decQ at hO
  have hS0 := St.ok_some h8
  have hN := lenS_le (m := 64) (some b) (by omega) hS0
  have L1 := Lib.hid (fun W g (hW : CurS W g (some b)) => (lenS_any (m := 64) hW (by omega) (by omega)))
  have hS1 := lenS_ok (m := 64) hS0
  generalize lenS 64 (some b) = x1 at *
  obtain ⟨N, S1⟩ := x1
  simp only at hN L1 hO hS1
  have HS1 := Lib.hid hS1
  clear hS1
  have HO := Lib.hid hO
  clear hO hS0
  have b1 : New w (w.alloc (.cells #[.slice none 0 0, .int .i64 0, .int .i64 0] 24)) := (Below.refl _ _).alloc (Nat.le_refl _) _
  go_enter Try.func10, Try.ntmps10
  go_wp2_with (go_at_call 19; refine (over_any (Reads.later h b1) hn h8).mono ?_; rintro e w2 ⟨g, rfl, hg, C2, b2⟩)
  have b02 := New.trans b1 b2
  have D2 := CurS.of C2
  have hg0 : w.heap.size < g := by simp at hg; omega
  have D3 := D2.below ((Below.refl _ w2).alloc (Nat.le_refl _) (.cells #[.slice none 0 0, .int .i64 0, .int .i64 0] 24))
  have Bq := Lib.hid (Blk.new w2 24 #[.slice none 0 0, .int .i64 0, .int .i64 0])
  have Br := Lib.hid (((Blk.new w 24 #[.slice none 0 0, .int .i64 0, .int .i64 0]).below b2 (by simp)).alloc (.cells #[.slice none 0 0, .int .i64 0, .int .i64 0] 24))
  have z2 := b2.size
  have l2 := D2.lt
  have Z2 := Lib.hid (And.intro z2 l2)
  clear z2 l2
  have LL := Lib.hid (L1.out _ _ D3)
  go_wp2_with (go_at_call 20; (with_reducible refine LL.out.mono ?_); rintro e w4 ⟨rfl, D4, b4⟩)
  obtain ⟨gq, hgq⟩ : ∃ gq, gq = w2.heap.size := ⟨_, rfl⟩
  rw [← hgq]
  have N1 := Lib.hid (show g ≠ gq by have := Z2.out.2; omega)
  have N2 := Lib.hid (show w.heap.size ≠ g by omega)
  have z02 : w.heap.size + 1 ≤ w2.heap.size := by have := Z2.out.1; simpa using this
  have Bq4 : Blk w4 gq 24 #[.slice none 0 0, .int .i64 0, .int .i64 0] := by rw [hgq]; exact Bq.out.grown b4 (by have := Z2.out.2; simp; omega)
  have Br4 : Blk w4 w.heap.size 24 #[.slice none 0 0, .int .i64 0, .int .i64 0] := Br.out.grown b4 (by simp; omega)
  have b04 : New w w4 := (Below.alloc b02 (by omega) _).grown b4 (by simp; omega) (by intro k hk; injection hk with hk; omega)
  have hgq0 : w.heap.size < gq := by omega
  have Hgq := Lib.hid hgq
  clear hgq
  go_loopw [6] (fun i wr => ∃ (q : Nat) (pre : List Int) (S : St) (A5 : Option Addr) (m5 c5 : Nat), i = .int .i64 (q : Int) ∧ pre.length + q = N ∧ Blk wr gq 24 #[.slice A5 m5 c5, .int .i64 0, .int .i64 0] ∧ Own wr (w.heap.size + 1) 3 (.slice A5 m5 c5) (ints .i64 pre) ∧ CurS wr g S ∧
    Blk wr w.heap.size 24 #[.slice none 0 0, .int .i64 0, .int .i64 0] ∧ New w wr ∧ Hid (qcols N S1 = (pre ++ (qcols q S).1, (qcols q S).2))) (fun i _ => (intOf i).toNat)
  case atStart => exact ⟨N, [], S1, _, _, _, rfl, by simp, Bq4, Own.nil_, D4, Br4, b04, Lib.hid (by simp)⟩
  case round =>
    obtain ⟨q, pre, S, A5, m5, c5, rfl, hq, Bq5, o5, D5, Br5, b5, H⟩ := hrel
    have HBq := Lib.hid Bq5
    have HBr := Lib.hid Br5
    have zq := Bq5.lt
    clear Bq5 Br5 Bq4 Br4
    have Hq := Lib.hid hq
    by_cases h0 : q = 0
    · subst h0
      have hO := HO.out
      rw [H.out] at hO
      simp only [qcols, List.append_nil] at hO
      have hpre : ∀ x ∈ pre, 0 ≤ x ∧ x < 64 := by
        have hh := qcols_bd (n := N) HS1.out
        rw [H.out] at hh
        simpa [qcols] using hh
      have hf0 := lenS_le (m := 65536) S (by omega) D5.ok
      have hS2 := lenS_ok (m := 65536) D5.ok
      have F1 := Lib.hid (fun W (hW : CurS W g S) => lenS_any (m := 65536) hW (by omega) (by omega))
      generalize lenS 65536 S = x1 at *
      obtain ⟨f, S2⟩ := x1
      simp only at hO hf0 hS2 F1
      have ht0 := lenS_le (m := 65536) S2 (by omega) hS2
      have F2 := Lib.hid (fun W (hW : CurS W g S2) => lenS_any (m := 65536) hW (by omega) (by omega))
      generalize lenS 65536 S2 = x2 at *
      obtain ⟨t, S3⟩ := x2
      simp only at hO ht0 F2
      have HO3 := Lib.hid hO
      have lm5 : m5 ≤ 64 := by have l := o5.len; rw [ints_length] at l; omega
      have HP := Lib.hid hpre
      clear hO HO hq hS2 hpre
      have e0 : decide ((0 : Int) < ((0 : Nat) : Int)) = false := by simp
      have FF := Lib.hid (F1.out wr D5)
      go_wp2_with fail
      refine FF.out.mono ?_
      rintro e w6 ⟨rfl, D6, b6⟩
      have B6 := HBq.out.grown b6 (by have := N1.out; simp; omega)
      have R6 := HBr.out.grown b6 (by have := N2.out; simp; omega)
      have b06 := Far.below b5 b6 (by omega) (Nat.le_refl _)
      have o6 : Own w6 (w.heap.size + 1) 3 (.slice A5 m5 c5) (ints .i64 pre) := by
        obtain ⟨cs, hB⟩ := D5.blk
        exact o5.keepT b6 hB (by decide)
      have x1 := B6.cell 1
      have y1 := B6.frozen 1
      simp at x1
      have HB6 := Lib.hid B6
      have HR6 := Lib.hid R6
      clear B6 R6
      go_wp2_with fail
      have g7 : w6.grownBy (w6.setCell ⟨gq, 1, none⟩ (.int .i64 (f : Int))) (some gq) := setCell_grown
      have B7 : Blk (w6.setCell ⟨gq, 1, none⟩ (.int .i64 (f : Int))) gq 24 #[.slice A5 m5 c5, .int .i64 (f : Int), .int .i64 0] := by simpa using HB6.out.set_ 1 (.int .i64 (f : Int))
      have R7 := HR6.out.grown g7 (by simp; omega)
      have D7 := D6.keep g7 HB6.out N1.out (by decide)
      have b07 : New w (w6.setCell ⟨gq, 1, none⟩ (.int .i64 (f : Int))) := b06.setCell (show w.heap.size ≤ gq by omega) _
      have o7 := o6.keepT g7 HB6.out (by decide)
      generalize w6.setCell ⟨gq, 1, none⟩ (.int .i64 (f : Int)) = w7 at *
      refine (F2.out w7 D7).mono ?_
      rintro e w8 ⟨rfl, D8, b8⟩
      have B8 := B7.grown b8 (by have := N1.out; simp; omega)
      have R8 := R7.grown b8 (by have := N2.out; simp; omega)
      have b08 := Far.below b07 b8 (by omega) (Nat.le_refl _)
      have o8 : Own w8 (w.heap.size + 1) 3 (.slice A5 m5 c5) (ints .i64 pre) := by
        obtain ⟨cs, hB⟩ := D7.blk
        exact o7.keepT b8 hB (by decide)
      have x2 := B8.cell 2
      have y2 := B8.frozen 2
      simp at x2
      have HB8 := Lib.hid B8
      have HR8 := Lib.hid R8
      clear B7 R7 B8 R8 x1 y1 D7 o7 g7
      go_wp2_with fail
      have g9 : w8.grownBy (w8.setCell ⟨gq, 2, none⟩ (.int .i64 (t : Int))) (some gq) := setCell_grown
      have B9 : Blk (w8.setCell ⟨gq, 2, none⟩ (.int .i64 (t : Int))) gq 24 #[.slice A5 m5 c5, .int .i64 (f : Int), .int .i64 (t : Int)] := by simpa using HB8.out.set_ 2 (.int .i64 (t : Int))
      have R9 := HR8.out.grown g9 (by simp; omega)
      have D9 := D8.keep g9 HB8.out N1.out (by decide)
      have b09 : New w (w8.setCell ⟨gq, 2, none⟩ (.int .i64 (t : Int))) := b08.setCell (show w.heap.size ≤ gq by omega) _
      have o9 := o8.keepT g9 HB8.out (by decide)
      generalize w8.setCell ⟨gq, 2, none⟩ (.int .i64 (t : Int)) = w9 at *
      clear x2 y2 g9
      have hO := HO3.out
      have ED := Lib.hid (endS_any D9)
      have MD := Lib.hid (may_any (c := c5) (f := (f : Int)) (t := (t : Int)) o9.reads (by omega) (fun x hx => by have := HP.out x hx; omega))
      have r0 := R9.cell 0
      have r1 := R9.cell 1
      have r2 := R9.cell 2
      have z0 := R9.frozen 0
      have z1 := R9.frozen 1
      have z2 := R9.frozen 2
      simp at r0 r1 r2
      have q0 := B9.cell 0
      have q1 := B9.cell 1
      have q2 := B9.cell 2
      simp at q0 q1 q2
      have HB9 := Lib.hid B9
      have HR9 := Lib.hid R9
      clear B9 R9
      cases hE : endS S3
      · rw [hE] at ED hO
        rw [if_neg (by simp)] at hO
        subst hO
        clear hE HO3
        refine ED.out.mono ?_
        rintro e w10 ⟨rfl, rfl⟩
        go_wp2
        obtain ⟨W3, hW3, R10, b10⟩ := store3 HR9.out (a := .slice none 0 0) (b := .int .i64 0) (c := .int .i64 0) b09 (Nat.le_refl _)
        rw [← hW3]
        have s0 := R10.cell 0
        have s1 := R10.cell 1
        have s2 := R10.cell 2
        simp at s0 s1 s2
        exact bodyPost_ret (v := .tuple #[Qv none 0 0 0 0, .bool false]) (by simp [results, Try.results10, go_sem, s0, s1, s2]) rfl ⟨rfl, b10⟩
      · rw [hE] at ED hO
        clear hE HO3
        refine ED.out.mono ?_
        rintro e w10 ⟨rfl, rfl⟩
        go_wp2_with fail
        refine MD.out.mono ?_
        rintro e w11 ⟨rfl, b11⟩
        have b0 := New.trans b09 b11
        have R11 := HR9.out.below b11 HR9.out.lt
        have B11 := HB9.out.below b11 HB9.out.lt
        have r0 := R11.cell 0
        have r1 := R11.cell 1
        have r2 := R11.cell 2
        have z0 := R11.frozen 0
        have z1 := R11.frozen 1
        have z2 := R11.frozen 2
        simp at r0 r1 r2
        have q0 := B11.cell 0
        have q1 := B11.cell 1
        have q2 := B11.cell 2
        simp at q0 q1 q2
        have HR11 := Lib.hid R11
        have o11 := o9.later b11
        clear B11 R11
        cases hM : qmay pre (f : Int) (t : Int)
        · rw [hM, if_neg (by simp)] at hO
          subst hO
          clear hM
          go_wp2
          obtain ⟨W3, hW3, R12, b12⟩ := store3 HR11.out (a := .slice none 0 0) (b := .int .i64 0) (c := .int .i64 0) b0 (Nat.le_refl _)
          rw [← hW3]
          have s0 := R12.cell 0
          have s1 := R12.cell 1
          have s2 := R12.cell 2
          simp at s0 s1 s2
          exact bodyPost_ret (v := .tuple #[Qv none 0 0 0 0, .bool false]) (by simp [results, Try.results10, go_sem, s0, s1, s2]) rfl ⟨rfl, b12⟩
        · rw [hM, if_pos (by simp)] at hO
          subst hO
          clear hM
          go_wp2
          obtain ⟨W3, hW3, R12, b12⟩ := store3 HR11.out (a := .slice A5 m5 c5) (b := .int .i64 (f : Int)) (c := .int .i64 (t : Int)) b0 (Nat.le_refl _)
          rw [← hW3]
          have s0 := R12.cell 0
          have s1 := R12.cell 1
          have s2 := R12.cell 2
          simp at s0 s1 s2
          refine bodyPost_ret (v := .tuple #[Qv A5 m5 c5 (f : Int) (t : Int), .bool true]) (by simp [results, Try.results10, go_sem, s0, s1, s2]) rfl ⟨A5, m5, c5, rfl, ?_, b12⟩
          rw [hW3]
          exact ((o11.base_le (by omega)).keepT setCell3_grown HR11.out (by decide))
    · obtain ⟨q, rfl⟩ : ∃ p, q = p + 1 := ⟨q - 1, by omega⟩
      have H2 := H.out
      simp only [qcols] at H2
      have hx0 := lenS_le (m := 63) S (by omega) D5.ok
      have L2 := Lib.hid (lenS_any (m := 63) (D5.below (New.drew wr)) (by omega) (by omega))
      generalize lenS 63 S = x at *
      obtain ⟨y, S'⟩ := x
      simp only at H2 L2 hx0
      have HH := Lib.hid H2
      have e0 : decide (0 < ((q + 1 : Nat) : Int)) = true := by simp
      have HC := Lib.hid (fun W (hW : Far g wr W) => show W.cell? ⟨gq, 0, none⟩ = some (.slice A5 m5 c5) by rw [(HBq.out.grown hW (by have := N1.out; simp; omega)).cell 0]; rfl)
      clear h0 H2 H hq
      have hq64 : q ≤ 64 := by have := Hq.out; omega
      have HL := Lib.hid (show pre.length ≤ 64 by have := Hq.out; omega)
      go_wp2
      refine wp_region_upT (Far g) 5 [(1, 0), (0, 1), (1, 2), (2, 3), (2, 4), (2, 5), (1, 6), (2, 7)]
        (Far.refl g) Far.trans (by kernel_rfl) (by kernel_rfl) (by kernel_rfl) (by kernel_rfl) ?_
      repeat (first
        | (refine upT_call rfl rfl (fun K hK => ?_); go_simp
           (with_reducible refine L2.out.mono ?_); rintro e w8 ⟨rfl, D8, b8⟩
           refine hK _ _ (.inr (.inr b8)) ?_
           clear hK
           have f8 : Far g wr w8 := Far.trans (Far.drew g wr) b8
           have b08 := Far.below b5 f8 (by omega) (Nat.le_refl _)
           have o8 : Own w8 (w.heap.size + 1) 3 (.slice A5 m5 c5) (ints .i64 pre) := by
             obtain ⟨cs, hB⟩ := D5.blk
             exact o5.keepT f8 hB (by decide)
           have HB8 := Lib.hid (HBq.out.grown f8 (by have := N1.out; simp; omega))
           have HR8 := Lib.hid (HBr.out.grown f8 (by have := N2.out; simp; omega)))
        | (refine upT_call rfl rfl (fun K hK => ?_)
           refine wp_push elI (.tmp 16) (.tmp 19) rfl (W := w) (B := w.heap.size) o8 rfl rfl b08 (by omega) (by have := b08.size; have := HB8.out.lt; omega) rfl (by rw [ints_length]; have := HL.out; omega) (by rw [ints_length]; have := HL.out; simp only [maxLen]; omega) ?_
           intro A9 c9 w9 _ _ o9 g9 b09 _
           refine hK _ _ (.inr (.inl rfl)) ?_
           clear hK
           have B9 := HB8.out.push o8 g9 (by decide)
           have HR9 := Lib.hid (HR8.out.push o8 g9 (by decide))
           have D9 := D8.push o8 g9 (by decide) (by decide)
           have x0 := B9.cell 0
           have y0 := B9.frozen 0
           simp at x0
           have HB9 := Lib.hid B9
           clear B9)
        | (refine upT_call rfl rfl (fun K hK => ?_); go_simp
           refine hK _ _ (.inr (.inr (Far.of_new ((Below.refl _ _).alloc (Nat.le_refl _) _)))) ?_
           clear hK)
        | (refine upT_call rfl rfl (fun K hK => ?_); go_simp
           refine hK _ _ (.inl rfl) ?_
           clear hK)
        | (refine upT_quiet rfl rfl (v := ?_) (fun W hW => ?_) ?_; rotate_left; (have hc := HC.out W (Far.trans (Far.drew g wr) hW); go_simp <;> with_reducible rfl); simp only [Act.put, List.setIfInBounds_toArray, List.set_cons_zero, List.set_cons_succ])
        | (refine upT_pure rfl rfl (v := ?_) (fun W => ?_) ?_; rotate_left; (go_simp <;> with_reducible rfl); simp only [Act.put, List.setIfInBounds_toArray, List.set_cons_zero, List.set_cons_succ]))
      refine upT_nil ?_
      go_wp2
      go_roundw
      case rel =>
        have gg : w9.grownBy (w9.setCell ⟨gq, 0, none⟩ (.slice A9 ((ints .i64 pre).length + 1) c9)) (some gq) := setCell_grown
        refine ⟨q, pre ++ [(y : Int)], S', A9, (ints .i64 pre).length + 1, c9, by first | go_num | (congr 1; omega), by rw [List.length_append, List.length_singleton]; have := Hq.out; omega, by simpa using HB9.out.set_ 0 (.slice A9 ((ints .i64 pre).length + 1) c9), ?_, D9.keep gg HB9.out N1.out (by decide), HR9.out.grown gg (by simp; omega), b09.setCell (show w.heap.size ≤ gq by omega) _, Lib.hid (by rw [HH.out, List.append_assoc]; rfl)⟩
        rw [ints_snoc]
        exact o9.keepT gg HB9.out (by decide)
      case measure => simp [intOf]

end Go.Proofs.Ytnmdbplkngnflaa
