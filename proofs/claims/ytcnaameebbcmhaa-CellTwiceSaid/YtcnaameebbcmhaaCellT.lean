/- Contract on ref07.Same. -/
import Derived.Test.YtcnaameebbcmhaaCellS
import Derived.Test.YtcnaameebbcmhaaOpenTb
import Derived.Test.YtcnaameebbcmhaaColsR

namespace Go.Proofs.Ytcnaameebbcmhaa
open Go.RowKit Go.Hm
theorem mem_getDS {α : Type} {l : List α} {k : Nat} (d : α) (h : k < l.length) : l.getD k d ∈ l := by
  rw [List.getD_eq_getElem?_getD, List.getElem?_eq_getElem h]
  exact List.getElem_mem h
set_option maxHeartbeats 2000000 in
set_option maxRecDepth 100000 in
theorem same_any {w : World} {A1 : Option Addr} {c1 : Nat} {L : List ColS} {r : Int} {B1 : Option Addr} {k1 : Nat} {D1 : List ColD} {A2 : Option Addr} {c2 : Nat} {B2 : Option Addr} {k2 : Nat} {D2 : List ColD}
    (h1 : TabIn w A1 c1 L B1 D1) (h2 : TabIn w A2 c2 L B2 D2) (hD : D1.map (·.2.2) = D2.map (·.2.2)) :
    Calls Try.prog 21 #[.agg #[.slice A1 L.length c1, .int .i64 r, .slice B1 D1.length k1], .agg #[.slice A2 L.length c2, .int .i64 r, .slice B2 D2.length k2]] w (NewPost (.bool true) w) := by
  have hl : D1.length = D2.length := by have := congrArg List.length hD; simpa using this
  have hat : ∀ k, k < D1.length → (D1.getD k (none, 0, [])).2.2 = (D2.getD k (none, 0, [])).2.2 := by
    intro k hk
    have := congrArg (fun l => l[k]?) hD
    simp only [List.getElem?_map, List.getElem?_eq_getElem hk, List.getElem?_eq_getElem (show k < D2.length by omega), Option.map_some, Option.some.injEq] at this
    rw [List.getD_eq_getElem?_getD, List.getElem?_eq_getElem hk, List.getD_eq_getElem?_getD, List.getElem?_eq_getElem (show k < D2.length by omega)]
    exact this
  have HAT := Lib.hid hat
  obtain ⟨W1, hW1⟩ : ∃ W, W = w.alloc (.cells #[.slice A1 L.length c1, .int .i64 r, .slice B1 D1.length k1] 35) := ⟨_, rfl⟩
  obtain ⟨W2, hW2⟩ : ∃ W, W = W1.alloc (.cells #[.slice A2 L.length c2, .int .i64 r, .slice B2 D2.length k2] 35) := ⟨_, rfl⟩
  have b1 : New w W1 := by rw [hW1]; exact (Below.refl _ _).alloc (Nat.le_refl _) _
  have b2 : New W1 W2 := by rw [hW2]; exact (Below.refl _ _).alloc (Nat.le_refl _) _
  have b02 := New.trans b1 b2
  have X1 : Blk W2 w.heap.size 35 #[.slice A1 L.length c1, .int .i64 r, .slice B1 D1.length k1] := by
    have : Blk W1 w.heap.size 35 #[.slice A1 L.length c1, .int .i64 r, .slice B1 D1.length k1] := by rw [hW1]; exact Blk.new _ _ _
    exact this.below b2 this.lt
  have X2 : Blk W2 (w.heap.size + 1) 35 #[.slice A2 L.length c2, .int .i64 r, .slice B2 D2.length k2] := by
    have e : w.heap.size + 1 = W1.heap.size := by rw [hW1]; simp
    rw [e, hW2]; exact Blk.new _ _ _
  have T1 := Lib.hid (fun (W : World) (hW : New W2 W) => h1.later (New.trans b02 hW))
  have T2 := Lib.hid (fun (W : World) (hW : New W2 W) => h2.later (New.trans b02 hW))
  have F := Lib.hid (fun (W : World) (hW : New W2 W) => And.intro (ccells (X1.below hW X1.lt)) (ccells (X2.below hW X2.lt)))
  have HW := Lib.hid (show (w.alloc (.cells #[.slice A1 L.length c1, .int .i64 r, .slice B1 D1.length k1] 35)).alloc (.cells #[.slice A2 L.length c2, .int .i64 r, .slice B2 D2.length k2] 35) = W2 by rw [hW2, hW1])
  obtain ⟨⟨x0, x1, x2⟩, y0, y1, y2⟩ := F.out W2 (New.refl _)
  rw [← HW.out] at x0 x1 x2 y0 y1 y2
  have s1 := h1.few
  have s2 := h1.few2
  have s3 := h2.few2
  have P1 := Lib.hid (schemaEq_any (c := c1) (c2 := c2) (T1.out W2 (New.refl _)).cols (T2.out W2 (New.refl _)).cols s1)
  have e1 : ((D1.length : Int) != (D2.length : Int)) = false := by simp; omega
  have HL := Lib.hid hl
  clear hW1 hW2 X1 X2 h1 h2 hat hD b1 b2 hl
  go_enter Try.func21, Try.ntmps21
  go_wp2_with fail
  rw [HW.out]
  refine P1.out.mono ?_
  rintro e w3 ⟨rfl, b3⟩
  clear x0 x1 x2 y0 y1 y2 e1
  go_wp2
  go_loopw [5] (fun i wr => ∃ k : Nat, i = .int .i64 (k : Int) ∧ k ≤ D1.length ∧ New W2 wr) (fun i _ => D1.length - (intOf i).toNat)
  case atStart => exact ⟨0, rfl, by omega, b3⟩
  case round =>
    obtain ⟨k, rfl, hk, hb⟩ := hrel
    by_cases hlt : k < D1.length
    · have hlt2 : k < D2.length := by have := HL.out; omega
      obtain ⟨⟨x0, x1, x2⟩, y0, y1, y2⟩ := F.out wr hb
      obtain ⟨E1, E2, E3, E4, E5⟩ := (T1.out _ (New.trans hb (New.drew wr))).within _ (mem_getDS (none, 0, []) hlt)
      obtain ⟨G1, G2, G3, G4, G5⟩ := (T2.out _ (New.trans hb (New.drew wr))).within _ (mem_getDS (none, 0, []) hlt2)
      have P := Lib.hid (rcells_any (c := (D1.getD k (none, 0, [])).2.1) (c2 := (D2.getD k (none, 0, [])).2.1) E1 G1 (by omega) (by omega) (fun x hx => (E2 x hx).2) (fun x hx => (G2 x hx).2))
      rw [HAT.out k hlt, decide_eq_true rfl] at P
      obtain ⟨ad, ea, hbd, c0⟩ := (T1.out _ hb).data.colD hlt
      obtain ⟨ad2, ea2, hbd2, d0⟩ := (T2.out _ hb).data.colD hlt2
      rw [HAT.out k hlt] at c0
      subst ea ea2
      have hbx : (ad.add k).block < wr.drew.heap.size := by rw [block_of_add]; exact hbd
      have hbx2 : (ad2.add k).block < wr.drew.heap.size := by rw [block_of_add]; exact hbd2
      have C1 := Lib.hid (cell_new c0 hbx)
      have C2 := Lib.hid (cell_new d0 hbx2)
      clear E1 E2 E3 E4 E5 G1 G2 G3 G4 G5 c0 d0
      generalize (D1.getD k (none, 0, [])).1 = a1 at *
      generalize (D1.getD k (none, 0, [])).2.1 = m1 at *
      generalize (D2.getD k (none, 0, [])).1 = a2 at *
      generalize (D2.getD k (none, 0, [])).2.1 = m2 at *
      generalize (D2.getD k (none, 0, [])).2.2 = l2 at *
      have i1 : (k : Int) < (D1.length : Int) := by omega
      have i2 : (k : Int) < (D2.length : Int) := by omega
      go_wp2
      clear x0 x1 x2 y0 y1 y2
      refine wp_region_up New [(true, 0), (true, 1), (true, 2), (true, 3), (true, 4), (true, 5), (true, 6), (true, 7), (true, 8), (true, 9), (false, 10), (true, 11)]
        New.refl New.trans (by kernel_rfl) (by kernel_rfl) (by kernel_rfl) (by kernel_rfl) ?_
      have hU := New.refl wr.drew
      repeat (first
        | (refine up_quiet rfl rfl (v := ?_) (fun W hW => ?_) ?_; rotate_left; (obtain ⟨⟨x0, x1, x2⟩, y0, y1, y2⟩ := F.out W (New.trans hb (New.trans (New.drew wr) (New.trans hU hW))); have g1 := C1.out W (New.trans hU hW); have g2 := C2.out W (New.trans hU hW); go_simp <;> with_reducible rfl); simp only [Act.put, List.setIfInBounds_toArray, List.set_cons_zero, List.set_cons_succ])
        | (refine up_call rfl rfl (fun K hK => ?_); go_simp
           refine P.out.mono ?_
           rintro e u ⟨rfl, q, rfl⟩
           refine hK _ _ (new_drewN _ _) ?_
           clear hK
           replace hU := New.trans hU (new_drewN _ q)))
      refine up_nil ?_
      clear C1 C2 P hU
      go_wp2
      go_roundw
      case rel => exact ⟨k + 1, by go_num, by omega, New.trans hb (new_drewN _ _)⟩
      case measure => simp [intOf]; omega
    · obtain rfl : k = D1.length := by omega
      obtain ⟨⟨x0, x1, x2⟩, y0, y1, y2⟩ := F.out wr hb
      go_wp2
      go_ret
      exact ⟨rfl, New.trans b02 hb⟩

end Go.Proofs.Ytcnaameebbcmhaa
