/- Contracts on Compress. -/
import Derived.Test.YtglghnnmfplmdaaDoorShaW

namespace Go.Hm
open Go Go.RowKit
theorem cells8 {w : World} {g : Nat} {ty : TypeId} {s : S8} (h : Blk w g ty (cellsS s)) : w.cell? ⟨g, 0, none⟩ = some (.int .u32 s.1) ∧ w.cell? ⟨g, 1, none⟩ = some (.int .u32 s.2.1) ∧ w.cell? ⟨g, 2, none⟩ = some (.int .u32 s.2.2.1) ∧ w.cell? ⟨g, 3, none⟩ = some (.int .u32 s.2.2.2.1) ∧ w.cell? ⟨g, 4, none⟩ = some (.int .u32 s.2.2.2.2.1) ∧ w.cell? ⟨g, 5, none⟩ = some (.int .u32 s.2.2.2.2.2.1) ∧ w.cell? ⟨g, 6, none⟩ = some (.int .u32 s.2.2.2.2.2.2.1) ∧ w.cell? ⟨g, 7, none⟩ = some (.int .u32 s.2.2.2.2.2.2.2) := by
  have e : ∀ i, w.cell? ⟨g, i, none⟩ = (cellsS s)[i]? := h.cell
  exact ⟨e 0, e 1, e 2, e 3, e 4, e 5, e 6, e 7⟩
/-- The program's table of constants lies in the world. -/
def ConstIn (w : World) : Prop := 0 < w.heap.size ∧ ∀ i, i < 64 → w.cell? ⟨0, i, none⟩ = some (.int .u32 (kI.getD i 0))
theorem cellsS_one (s : S8) : (cellsS s).all (·.oneCell') = true := by simp [cellsS, Value.oneCell']
theorem alloc_setRow (w : World) (t : TypeId) (old cs : Array Value) : (w.alloc (.cells old t)).setRow w.heap.size cs = w.alloc (.cells cs t) := by
  unfold World.alloc World.setRow
  congr 1
  apply Array.ext_getElem?
  intro i
  simp only [Array.getElem?_modify, Array.getElem?_push]
  by_cases h : i = w.heap.size
  · subst h; simp
  · simp [h]; intro h2; exact absurd h2.symm h
theorem ConstIn.new {w w' : World} (h : ConstIn w) (hb : New w w') : ConstIn w' := ⟨Nat.lt_of_lt_of_le h.1 hb.size, fun i hi => (hb.cell h.1).trans (h.2 i hi)⟩

end Go.Hm

namespace Go.Proofs.YtglghnnmfplmdaaDoor
open Go.RowKit Go.Hm
set_option maxHeartbeats 600000 in
set_option maxRecDepth 100000 in
theorem compress_any {w : World} (s : S8) (hs : OkS s) (B : List Nat) (hB : B.length = 64) (h8 : ∀ x ∈ B, x < 256) (hC : ConstIn w) :
    Calls Tryd.prog 11 #[.agg (cellsS s), .agg (nums .u8 B).toArray] w (NewPost (.agg (cellsS (compS s B))) w) := by
  obtain ⟨W0, hW0⟩ : ∃ W, W = ((w.alloc (.cells (cellsS s) 29)).alloc (.cells (nums .u8 B).toArray 30)).alloc (.cells (cellsS (0, 0, 0, 0, 0, 0, 0, 0)) 29) := ⟨_, rfl⟩
  have e1 : (w.alloc (.cells (cellsS s) 29)).heap.size = w.heap.size + 1 := by simp
  have e2 : ((w.alloc (.cells (cellsS s) 29)).alloc (.cells (nums .u8 B).toArray 30)).heap.size = w.heap.size + 1 + 1 := by simp
  have b0 : New w W0 := by rw [hW0]; exact (((Below.refl _ _).alloc (Nat.le_refl _) _).alloc (by simp) _).alloc (by simp; omega) _
  have A0 : Blk W0 w.heap.size 29 (cellsS s) := by rw [hW0]; exact ((Blk.new _ _ _).alloc _).alloc _
  have P0 : Blk W0 (w.heap.size + 1) 30 (nums .u8 B).toArray := by rw [hW0, ← e1]; exact (Blk.new _ _ _).alloc _
  have R0 : Blk W0 (w.heap.size + 1 + 1) 29 (cellsS (0, 0, 0, 0, 0, 0, 0, 0)) := by rw [hW0, ← e2]; exact Blk.new _ _ _
  have hsz : (nums .u8 B).toArray.size = 64 := by simp [nums, hB]
  have hi1 : (Tryd.prog.info? 30).map (·.size) = some (nums .u8 B).toArray.size := by rw [hsz]; kernel_rfl
  have L1 := Lib.hid (And.intro (row_of_blk P0) hi1)
  have SC := Lib.hid (fun W : World => sched_any (w := W) B hB h8)
  have HW := Lib.hid (show W0 = ((w.alloc (.cells #[.int .u32 s.1, .int .u32 s.2.1, .int .u32 s.2.2.1, .int .u32 s.2.2.2.1, .int .u32 s.2.2.2.2.1, .int .u32 s.2.2.2.2.2.1, .int .u32 s.2.2.2.2.2.2.1, .int .u32 s.2.2.2.2.2.2.2] 29)).alloc (.cells (nums .u8 B).toArray 30)).alloc (.cells #[.int .u32 0, .int .u32 0, .int .u32 0, .int .u32 0, .int .u32 0, .int .u32 0, .int .u32 0, .int .u32 0] 29) from hW0)
  have HA := Lib.hid A0
  have HP := Lib.hid P0
  have HR := Lib.hid R0
  have HB := Lib.hid b0
  have HK := Lib.hid (hC.new b0)
  clear hW0 e1 e2 A0 P0 R0 b0 hi1 hsz
  have HS := Lib.hid hs
  have h0 := L1.out
  rw [HW.out] at h0
  have L0 := Lib.hid h0
  have hcs : (ints .u32 (schedI B)).toArray.size = 64 := by simp [ints, schedI_len]
  have hi2 : (Tryd.prog.info? 38).map (·.size) = some (ints .u32 (schedI B)).toArray.size := by rw [hcs]; kernel_rfl
  have CS := Lib.hid (And.intro hcs (And.intro hi2 (ints_one .u32 (schedI B))))
  have SU := Lib.hid (schedI_U B h8)
  have SL := Lib.hid (schedI_len B)
  rw [show (.agg (cellsS s) : Value) = .agg #[.int .u32 s.1, .int .u32 s.2.1, .int .u32 s.2.2.1, .int .u32 s.2.2.2.1, .int .u32 s.2.2.2.2.1, .int .u32 s.2.2.2.2.2.1, .int .u32 s.2.2.2.2.2.2.1, .int .u32 s.2.2.2.2.2.2.2] from rfl]
  clear L1 h0 hcs hi2 hB h8 hC hs
  go_enter Tryd.func11, Tryd.ntmps11
  go_wp2_with (refine wpList_load_row rfl 30 (.tmp 3) rfl (w.heap.size + 1) rfl _ (nums .u8 B).toArray _ _ L0.out.1 (show Tryd.prog.underlying 30 = some (.array 64 5) by kernel_rfl) rfl L0.out.2 ?_)
  rw [← HW.out]
  refine (SC.out _).mono ?_
  rintro e w1 ⟨rfl, b1⟩
  clear SC HW L0 HP
  go_wp2_with (refine wpList_store_row rfl 38 (.tmp 5) (.tmp 18) rfl w1.heap.size (ints .u32 (schedI B)).toArray rfl rfl _ _ (heap_alloc_new _ _) CS.out.2.1 (by rw [CS.out.1]; rfl) CS.out.2.2 ?_; rw [alloc_setRow])
  obtain ⟨W2, hW2⟩ : ∃ W, W = w1.alloc (.cells (ints .u32 (schedI B)).toArray 38) := ⟨_, rfl⟩
  have b2 : New W0 W2 := by rw [hW2]; exact New.trans b1 ((Below.refl _ _).alloc (Nat.le_refl _) _)
  have C2 : Blk W2 w1.heap.size 38 (ints .u32 (schedI B)).toArray := by rw [hW2]; exact Blk.new _ _ _
  rw [← hW2]
  have F := Lib.hid (fun (W : World) (hW : New W2 W) => cells8 (HA.out.below (New.trans b2 hW) HA.out.lt))
  have FK := Lib.hid (fun (t : Nat) (ht : t < 64) (W : World) (hW : New W2 W) => And.intro ((HK.out.new (New.trans b2 hW)).2 t ht) (blk_cell (i := t) (C2.below hW C2.lt) (by rw [SL.out]; exact ht)))
  have HR2 := Lib.hid (HR.out.below b2 HR.out.lt)
  have HB2 := Lib.hid (New.trans HB.out b2)
  have hg5 : w.heap.size + 1 + 1 < W2.heap.size := HR2.out.lt
  generalize hgc : w1.heap.size = gc at *
  clear hgc hW2 b1 b2 C2 HA HR HB HK hg5 CS
  refine wp_region_up New [(true, 0), (true, 1), (true, 2), (true, 3), (true, 4), (true, 5), (true, 6), (true, 7), (true, 8), (true, 9), (true, 10), (true, 11), (true, 12), (true, 13), (true, 14), (true, 15), (true, 16), (true, 17), (true, 18), (true, 19), (true, 20), (true, 21), (true, 22), (true, 23)]
    New.refl New.trans (by kernel_rfl) (by kernel_rfl) (by kernel_rfl) (by kernel_rfl) ?_
  iterate 24 (
        refine up_quiet rfl rfl (v := ?_) (fun W hW => ?_) ?_
        rotate_left
        · obtain ⟨x0, x1, x2, x3, x4, x5, x6, x7⟩ := F.out W (New.trans (New.drew W2) hW)
          go_simp <;> with_reducible rfl
        simp only [Act.put, List.setIfInBounds_toArray, List.set_cons_zero, List.set_cons_succ])
  refine up_nil ?_
  go_wp2
  go_loopw [6, 7, 8, 9, 10, 11, 12, 13, 35] (fun a b c d e f g i k wr => ∃ t : Nat, t ≤ 64 ∧ k = .int .i64 (t : Int) ∧ a = .int .u32 (roundS (schedI B) s t).1 ∧ b = .int .u32 (roundS (schedI B) s t).2.1 ∧ c = .int .u32 (roundS (schedI B) s t).2.2.1 ∧ d = .int .u32 (roundS (schedI B) s t).2.2.2.1 ∧ e = .int .u32 (roundS (schedI B) s t).2.2.2.2.1 ∧ f = .int .u32 (roundS (schedI B) s t).2.2.2.2.2.1 ∧ g = .int .u32 (roundS (schedI B) s t).2.2.2.2.2.2.1 ∧ i = .int .u32 (roundS (schedI B) s t).2.2.2.2.2.2.2 ∧ New W2 wr) (fun _ _ _ _ _ _ _ _ k _ => 64 - (intOf k).toNat)
  case atStart => exact ⟨0, by omega, rfl, rfl, rfl, rfl, rfl, rfl, rfl, rfl, rfl, New.drew W2⟩
  case round =>
    obtain ⟨t, ht, rfl, rfl, rfl, rfl, rfl, rfl, rfl, rfl, rfl, b⟩ := hrel
    by_cases hlt : t < 64
    · have hok := roundS_ok (W := schedI B) HS.out t
      have hst : roundS (schedI B) s (t + 1) = stepS (kI.getD t 0) ((schedI B).getD t 0) (roundS (schedI B) s t) := rfl
      have F2 := Lib.hid (FK.out t hlt)
      have HST := Lib.hid hst
      generalize hr : roundS (schedI B) s t = r at *
      have HRR := Lib.hid hr
      generalize kI.getD t 0 = kt at *
      generalize (schedI B).getD t 0 = wt at *
      obtain ⟨a, b', c, d, e, f, g, i⟩ := r
      obtain ⟨ua, ub, uc, ud, ue, uf, ug, ui⟩ := hok
      simp only at ua ue HST ⊢
      have Te6 := Lib.hid (fun W : World => show Calls Tryd.prog 18 #[.int .u32 e, .int .i64 6] W (NewPost (.int .u32 (rot e 6)) W) from (turn_any e 6 ue (by omega)).mono fun _ _ h => h.new)
      have Te11 := Lib.hid (fun W : World => show Calls Tryd.prog 18 #[.int .u32 e, .int .i64 11] W (NewPost (.int .u32 (rot e 11)) W) from (turn_any e 11 ue (by omega)).mono fun _ _ h => h.new)
      have Te25 := Lib.hid (fun W : World => show Calls Tryd.prog 18 #[.int .u32 e, .int .i64 25] W (NewPost (.int .u32 (rot e 25)) W) from (turn_any e 25 ue (by omega)).mono fun _ _ h => h.new)
      have Ta2 := Lib.hid (fun W : World => show Calls Tryd.prog 18 #[.int .u32 a, .int .i64 2] W (NewPost (.int .u32 (rot a 2)) W) from (turn_any a 2 ua (by omega)).mono fun _ _ h => h.new)
      have Ta13 := Lib.hid (fun W : World => show Calls Tryd.prog 18 #[.int .u32 a, .int .i64 13] W (NewPost (.int .u32 (rot a 13)) W) from (turn_any a 13 ua (by omega)).mono fun _ _ h => h.new)
      have Ta22 := Lib.hid (fun W : World => show Calls Tryd.prog 18 #[.int .u32 a, .int .i64 22] W (NewPost (.int .u32 (rot a 22)) W) from (turn_any a 22 ua (by omega)).mono fun _ _ h => h.new)
      have jt : (t : Int) < 64 := by omega
      clear ua ub uc ud ue uf ug ui hst hr HRR
      have hpI : pI e f g i kt wt = IntKind.u32.wrap (IntKind.u32.wrap (IntKind.u32.wrap (IntKind.u32.wrap (i + bits .xor .u32 (bits .xor .u32 (rot e 6) (rot e 11)) (rot e 25)) + bits .xor .u32 (bits .and .u32 e f) (bits .and .u32 (bits .xor .u32 (if IntKind.u32.signed = true then -1 else IntKind.u32.max) e) g)) + kt) + wt) := rfl
      have hqI : qI a b' c = (bits .xor .u32 (bits .xor .u32 (rot a 2) (rot a 13)) (rot a 22) + bits .xor .u32 (bits .xor .u32 (bits .and .u32 a b') (bits .and .u32 a c)) (bits .and .u32 b' c)) % 4294967296 := rfl
      generalize rot e 6 = r6 at *
      generalize rot e 11 = r11 at *
      generalize rot e 25 = r25 at *
      generalize rot a 2 = r2 at *
      generalize rot a 13 = r13 at *
      generalize rot a 22 = r22 at *
      obtain ⟨x1, q1⟩ : ∃ x, bits .xor .u32 r6 r11 = x := ⟨_, rfl⟩
      obtain ⟨x2, q2⟩ : ∃ x, bits .xor .u32 x1 r25 = x := ⟨_, rfl⟩
      obtain ⟨x3, q3⟩ : ∃ x, IntKind.u32.wrap (i + x2) = x := ⟨_, rfl⟩
      obtain ⟨y1, q4⟩ : ∃ x, bits .and .u32 e f = x := ⟨_, rfl⟩
      obtain ⟨y2, q5⟩ : ∃ x, bits .xor .u32 (if IntKind.u32.signed = true then -1 else IntKind.u32.max) e = x := ⟨_, rfl⟩
      obtain ⟨y3, q6⟩ : ∃ x, bits .and .u32 y2 g = x := ⟨_, rfl⟩
      obtain ⟨y4, q7⟩ : ∃ x, bits .xor .u32 y1 y3 = x := ⟨_, rfl⟩
      obtain ⟨x4, q8⟩ : ∃ x, IntKind.u32.wrap (x3 + y4) = x := ⟨_, rfl⟩
      obtain ⟨x5, q9⟩ : ∃ x, IntKind.u32.wrap (x4 + kt) = x := ⟨_, rfl⟩
      obtain ⟨p, q10⟩ : ∃ x, IntKind.u32.wrap (x5 + wt) = x := ⟨_, rfl⟩
      rw [q1, q2, q3, q4, q5, q6, q7, q8, q9, q10] at hpI
      obtain ⟨z1, v1⟩ : ∃ x, bits .xor .u32 r2 r13 = x := ⟨_, rfl⟩
      obtain ⟨z2, v2⟩ : ∃ x, bits .xor .u32 z1 r22 = x := ⟨_, rfl⟩
      obtain ⟨z3, v3⟩ : ∃ x, bits .and .u32 a b' = x := ⟨_, rfl⟩
      obtain ⟨z4, v4⟩ : ∃ x, bits .and .u32 a c = x := ⟨_, rfl⟩
      obtain ⟨z5, v5⟩ : ∃ x, bits .xor .u32 z3 z4 = x := ⟨_, rfl⟩
      obtain ⟨z6, v6⟩ : ∃ x, bits .and .u32 b' c = x := ⟨_, rfl⟩
      obtain ⟨z7, v7⟩ : ∃ x, bits .xor .u32 z5 z6 = x := ⟨_, rfl⟩
      rw [v1, v2, v3, v4, v5, v6, v7] at hqI
      have hst2 := HST.out
      rw [show stepS kt wt (a, b', c, d, e, f, g, i) = ((pI e f g i kt wt + qI a b' c) % 4294967296, a, b', c, (d + pI e f g i kt wt) % 4294967296, e, f, g) from rfl, hpI, hqI] at hst2
      have HST2 := Lib.hid hst2
      have QP := Lib.hid (And.intro q1 (And.intro q2 (And.intro q3 (And.intro q4 (And.intro q5 (And.intro q6 (And.intro q7 (And.intro q8 (And.intro q9 q10)))))))))
      have QV := Lib.hid (And.intro v1 (And.intro v2 (And.intro v3 (And.intro v4 (And.intro v5 (And.intro v6 v7))))))
      clear hst2 hpI hqI HST q1 q2 q3 q4 q5 q6 q7 q8 q9 q10 v1 v2 v3 v4 v5 v6 v7
      go_wp2_with fail
      refine wp_region_up New [(true, 0), (true, 1), (true, 3), (true, 6), (true, 10), (true, 11), (true, 12), (true, 13), (true, 14), (true, 15), (true, 16), (true, 17), (true, 19), (true, 20), (true, 21), (true, 23), (true, 24), (true, 25), (false, 2), (false, 4), (true, 5), (false, 7), (true, 8), (true, 9), (true, 18), (true, 22), (true, 26), (true, 27)]
        New.refl New.trans (by kernel_rfl) (by kernel_rfl) (by kernel_rfl) (by kernel_rfl) ?_
      have hU := New.trans b (New.drew wr)
      repeat (first
        | (refine up_quiet rfl rfl (v := ?_) (fun W hW => ?_) ?_; rotate_left; (obtain ⟨o0, o1⟩ := F2.out W (New.trans hU hW); obtain ⟨q1, q2, q3, q4, q5, q6, q7, q8, q9, q10⟩ := QP.out; go_simp <;> with_reducible rfl); simp only [Act.put, List.setIfInBounds_toArray, List.set_cons_zero, List.set_cons_succ])
        | (refine up_call rfl rfl (fun K hK => ?_); go_simp
           first
           | (with_reducible refine (Te6.out _).mono ?_)
           | (with_reducible refine (Te11.out _).mono ?_)
           | (with_reducible refine (Te25.out _).mono ?_)
           rintro e9 w9 ⟨rfl, c9⟩
           refine hK _ _ c9 ?_
           clear hK
           replace hU := New.trans hU c9))
      refine up_nil ?_
      go_wp2_with fail
      (with_reducible refine (Ta2.out _).mono ?_)
      rintro e9 w2 ⟨rfl, c2⟩
      replace hU := New.trans hU c2
      go_wp2_with fail
      (with_reducible refine (Ta13.out _).mono ?_)
      rintro e9 w3 ⟨rfl, c3⟩
      replace hU := New.trans hU c3
      obtain ⟨v1, v2, v3, v4, v5, v6, v7⟩ := QV.out
      go_wp2_with fail
      (with_reducible refine (Ta22.out _).mono ?_)
      rintro e9 w4 ⟨rfl, c4⟩
      replace hU := New.trans hU c4
      clear Te6 Te11 Te25 Ta2 Ta13 Ta22 F2 c2 c3 c4 QP QV
      go_wp2
      go_roundw
      case rel =>
        refine ⟨t + 1, by omega, by go_num, ?_⟩
        rw [HST2.out]
        exact ⟨rfl, rfl, rfl, rfl, rfl, rfl, rfl, rfl, hU⟩
      case measure => simp [intOf]; omega
    · have ht64 : t = 64 := by omega
      have HT := Lib.hid (show addS s (roundS (schedI B) s t) = compS s B by rw [ht64]; rfl)
      obtain ⟨x0, x1, x2, x3, x4, x5, x6, x7⟩ := F.out wr b
      have R3 := Lib.hid (HR2.out.below b HR2.out.lt)
      have bE := New.far (New.trans HB2.out b) (far_setRow (g := w.heap.size + 1 + 1) wr (cellsS (addS s (roundS (schedI B) s t)))) (by omega)
      have BE := Lib.hid bE
      generalize roundS (schedI B) s t = r at *
      have hsz : (Tryd.prog.info? 29).map (·.size) = some (cellsS (addS s r)).size := by rw [show (cellsS (addS s r)).size = 8 from rfl]; kernel_rfl
      have HSZ := Lib.hid hsz
      clear ht64 hsz bE FK F HS SU SL
      go_wp2_with (refine wpList_store_row rfl 29 (.tmp 4) (.tmp 130) rfl (w.heap.size + 1 + 1) (cellsS (addS s r)) rfl rfl _ _ (row_of_blk R3.out) HSZ.out rfl (cellsS_one _) ?_)
      exact bodyPost_ret (results_cell_row rfl _ _ (w.heap.size + 1 + 1) _ (cellsS (addS s r)) (0, 0) _ rfl (row_of_blk (blk_setRow R3.out _)) (show Tryd.prog.underlying 29 = some (.array 8 28) by kernel_rfl) rfl HSZ.out) rfl ⟨by rw [HT.out], BE.out⟩

end Go.Proofs.YtglghnnmfplmdaaDoor
