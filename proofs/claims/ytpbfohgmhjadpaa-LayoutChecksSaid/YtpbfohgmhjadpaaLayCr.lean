/- Contract of the answer's Check. -/
import Derived.Test.YtpbfohgmhjadpaaLayC

namespace Go.Proofs.Ytpbfohgmhjadpaa
open Go.RowKit Go.Hm

set_option maxHeartbeats 2000000 in
set_option maxRecDepth 100000 in
theorem rlcheck_any {w : World} {A A2 : Option Addr} {n c n2 c2 : Nat} {g p : Int} {E : List Int} {L : List ColS} (h : Reads w w.heap.size 1 A n (ints .i64 E)) (h2 : Reads w w.heap.size 3 A2 n2 (recs colV L)) (hn : n ≤ 4611686018427387903) :
    Calls Try.prog 16 #[Cv g p A n c, .slice A2 n2 c2] w (NewPost (.int .i64 (confCk g p E L)) w) := by
  have l1 := h.lenI
  have l2 := h2.lenC
  have b0 : New w (w.alloc (.cells #[.int .i64 g, .int .i64 p, .slice A n c] 32)) := (Below.refl _ _).alloc (Nat.le_refl _) _
  have B0 := Blk.new w 32 #[.int .i64 g, .int .i64 p, .slice A n c]
  obtain ⟨x0, x1, x2⟩ := ccells B0
  by_cases hg : 1 ≤ g ∧ g ≤ 65536 ∧ 1 ≤ p ∧ p ≤ 65536 ∧ E.length = L.length
  · have d1 : decide (g < 1) = false := by simp; omega
    have d2 : decide (65536 < g) = false := by simp; omega
    have d3 : decide (p < 1) = false := by simp; omega
    have d4 : decide (65536 < p) = false := by simp; omega
    have K1 := Lib.hid (fun hh => confCk_ok hg hh)
    have K2 := Lib.hid (fun (i : Nat) (hi : i < n) hh => confCk_bad hg (i := i) (by omega) hh)
    have hll : n2 = n := by omega
    have HL := Lib.hid l1
    subst hll
    generalize confCk g p E L = O at *
    have r1 := Reads.later h b0
    have r2 := Reads.later h2 b0
    clear hg h h2 l1 l2
    go_enter Try.func16, Try.ntmps16
    go_wp2
    clear x0 x1 x2 d1 d2 d3 d4
    obtain ⟨W0, hW0⟩ : ∃ W, W = w.alloc (.cells #[.int .i64 g, .int .i64 p, .slice A n2 c] 32) := ⟨_, rfl⟩
    rw [← hW0] at b0 r1 r2 B0 ⊢
    obtain ⟨gc, hgc⟩ : ∃ g, g = w.heap.size := ⟨_, rfl⟩
    rw [← hgc] at B0 ⊢
    have HB := Lib.hid B0
    clear hW0 hgc B0
    go_loopw [5] (fun i wr => ∃ k q : Nat, i = .int .i64 (k : Int) ∧ k ≤ n2 ∧ wr = W0.drewN q ∧ Hid (∀ j, j < k → encOk (L.getD j ([], 0, false)).2.1 (E.getD j 0))) (fun i _ => n2 - (intOf i).toNat)
    case atStart => exact ⟨0, 0, rfl, by omega, rfl, Lib.hid (fun j hj => by omega)⟩
    case round =>
      obtain ⟨k, q, rfl, hk, rfl, H⟩ := hrel
      by_cases hlt : k < n2
      · obtain ⟨ad, rfl, hb, hc⟩ := (r1.drewN q).int hlt
        obtain ⟨ad2, rfl, hb2, hc0, hc1, hc2⟩ := (r2.drewN q).colT hlt
        have K2 := Lib.hid (K2.out k hlt)
        have N := Lib.hid (show encOk (L.getD k ([], 0, false)).2.1 (E.getD k 0) → ∀ j, j < k + 1 → encOk (L.getD j ([], 0, false)).2.1 (E.getD j 0) from fun hh j hj => by
          by_cases e : j = k
          · subst e; exact hh
          · exact H.out j (by omega))
        generalize (L.getD k ([], 0, false)).2.1 = t at *
        generalize E.getD k 0 = e at *
        generalize (L.getD k ([], 0, false)).2.2 = x3 at *
        generalize (L.getD k ([], 0, false)).1 = x4 at *
        have hiz : (k : Int) < (n2 : Int) := by omega
        have F := Lib.hid (fun W => rfits_any t e W)
        have hbb : (ad.add k).block < (W0.drewN q).drew.heap.size := by rw [block_of_add]; exact hb
        have hbb2 : (ad2.add (k * 3)).block < (W0.drewN q).drew.heap.size := by rw [block_of_add]; exact hb2
        have C1 := Lib.hid (cell_new hc hbb)
        have C2 := Lib.hid (cell_new hc1 hbb2)
        have C3 := Lib.hid (cell_new (ccells (HB.out.drewN q)).2.2 HB.out.lt)
        have c3 := (ccells (HB.out.drewN (q + 1))).2.2
        have c4 : (W0.drewN (q + 1)).cell? (ad.add k) = some (.int .i64 e) := hc
        go_wp2_with fail
        refine wp_region_up New [(true, 0), (true, 1), (true, 2), (true, 3), (true, 4), (true, 5), (true, 6), (true, 7), (true, 8), (true, 9), (false, 10), (true, 11)]
          New.refl New.trans (by kernel_rfl) (by kernel_rfl) (by kernel_rfl) (by kernel_rfl) ?_
        repeat (first
          | (refine up_call rfl rfl (fun K hK => ?_); go_simp
             (with_reducible refine (F.out _).mono ?_)
             rintro e w9 ⟨rfl, rfl⟩
             refine hK _ _ (New.refl _) ?_
             clear hK)
          | (refine up_quiet rfl rfl (v := ?_) (fun W hW => ?_) ?_; rotate_left; (have g1 := C1.out W hW; have g2 := C2.out W hW; have g3 := C3.out W hW; go_simp <;> with_reducible rfl); simp only [Act.put, List.setIfInBounds_toArray, List.set_cons_zero, List.set_cons_succ]))
        refine up_nil ?_
        clear C1 C2 C3 hc hc0 hc1 hc2
        by_cases he : e = -1
        · have N2 := Lib.hid (N.out (.inl he))
          subst he
          generalize fitsV t (-1) = fb at *
          go_wp2
          go_roundw
          case rel => exact ⟨k + 1, q + 1, by go_num, by omega, rfl, N2⟩
          case measure => simp [intOf]; omega
        · have e1 : (e != -1) = true := by simpa using he
          cases hf : fitsV t e
          · have K3 := Lib.hid (K2.out (fun hh => by rcases hh with hh | hh; exact he hh; rw [hf] at hh; cases hh))
            clear hf he F N
            go_wp2
            go_ret
            exact ⟨by rw [K3.out]; rfl, New.trans b0 (new_drewN _ _)⟩
          · have N2 := Lib.hid (N.out (.inr hf))
            clear hf he F N
            go_wp2
            go_roundw
            case rel => exact ⟨k + 1, q + 1, by go_num, by omega, rfl, N2⟩
            case measure => simp [intOf]; omega
      · have K3 := Lib.hid (K1.out (fun i hi => H.out i (by have := HL.out; omega)))
        go_wp2
        go_ret
        exact ⟨by rw [K3.out]; rfl, New.trans b0 (new_drewN _ _)⟩
  · have K := Lib.hid (confCk_no hg)
    generalize confCk g p E L = O at *
    have hc : g < 1 ∨ (¬ g < 1 ∧ 65536 < g) ∨ (¬ g < 1 ∧ ¬ 65536 < g ∧ p < 1) ∨ (¬ g < 1 ∧ ¬ 65536 < g ∧ ¬ p < 1 ∧ 65536 < p) ∨ (¬ g < 1 ∧ ¬ 65536 < g ∧ ¬ p < 1 ∧ ¬ 65536 < p ∧ ¬ (n : Int) = (n2 : Int)) := by omega
    clear hg B0 l1 l2
    rcases hc with h1 | ⟨h1, h2⟩ | ⟨h1, h2, h3⟩ | ⟨h1, h2, h3, h4⟩ | ⟨h1, h2, h3, h4, h5⟩
    all_goals
      try (have d1 : decide (g < 1) = false := decide_eq_false h1)
      try (have d2 : decide (65536 < g) = false := decide_eq_false h2)
      try (have d3 : decide (p < 1) = false := decide_eq_false h3)
      try (have d4 : decide (65536 < p) = false := decide_eq_false h4)
      try (have d5 : ((n : Int) != (n2 : Int)) = true := by simpa using h5)
      go_enter Try.func16, Try.ntmps16
      go_wp2
      go_ret
      exact ⟨by rw [K.out]; rfl, b0⟩

end Go.Proofs.Ytpbfohgmhjadpaa
